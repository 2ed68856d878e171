import PyProof.Rows.All
import Wide.All
import OpenK.AllK
import Wide.FinOn
import HandS.Walk
import HandS.Words
import HandS.WordsList
import HandS.TupAny
import HandS.Wide
import HandS.Exc
import HandS.ExcCtx
import HandS.Defaults
import HandS.TupMul
import HandS.IsInst
import HandS.Conv
import HandS.Zip
import HandS.Style
import HandS.Comp
import HandS.WordsExc
import HandS.CallSlots
import HandS.Property
import HandS.ClsMeth
import HandS.Star
import HandS.OwnEq
import KE.GoesNew
import HandS.Ends
import PyProof.Rows.NestShow
import PyProof.ReprRoads
import PyProof.ReprLen
import PyProof.Rows.RegStrFacts
import HandS.MakeKw
import PyProof.SeqIndex
import HandS.TryOnly
import HandS.SortInts
import HandS.RaiseMore
import HandS.FStr
import HandS.Iter
import HandS.Dict
import KE.DatumOrd
import HandS.SetFor
import HandS.Strs
import KE.GoesMore
import HandS.Text
import HandS.Deep
import HandS.TryMany
import HandS.ExcField
import HandS.ExcIs
import KE.SortData
import HandS.Replace
import PySem.Challenge.RW_checkdigits_k53_codes_written
set_option Elab.async false
set_option linter.all false
set_option maxRecDepth 100000
set_option maxHeartbeats 2000000
namespace CD
open PySem PySem.Spec PyProof.Rows L2

/-- a value by itself; `loc` names a place of the store (a list or an object that may change) -/
inductive PV where
  | non | bl (b : Bool) | int (i : Int) | str (x : Str) | ty (n : String) | gl (x : Str)
  | tup (xs : List PV) | lst (xs : List PV) | rls (xs : List PV)
  | obj (c : Str) (ns : List Str) (fs : List PV) | loc (l : Nat)
  | dct (lk : Bool) (ks : List Key) (vs : List PV)

inductive Cell where
  | dead | lst (xs : List PV) | ins (c : Str) (ns : List Str) (fs : List PV)
  | dct (ks : List Key) (vs : List PV)

abbrev Store := List Cell
abbrev PEnv := List (Option PV)
/-- an exception: its class by name, its own fields -/
structure PX where
  c : Str
  ns : List Str
  fs : List PV

inductive Res (α : Type) where
  | stuck | ok (a : α) (st : Store) | exc (e : PX) (env : PEnv) (st : Store)
def Res.bind {α β : Type} : Res α → (α → Store → Res β) → Res β
  | .stuck, _ => .stuck
  | .ok a st, f => f a st
  | .exc e v st, _ => .exc e v st
abbrev M (α : Type) := Store → Res α
abbrev DE := PEnv → M PV

inductive Flow where
  | nx (env : PEnv) | rt (v : PV) | bk (env : PEnv) | ct (env : PEnv)
abbrev DS := PEnv → M Flow

/-- where the places of the store stand; a dead one stands nowhere -/
structure Loc where
  s : List (Option Addr)
  hid : List Addr
def live (r : Loc) (a : Addr) : Prop := some a ∈ r.s
/-- what may change behind a value's back -/
def av (r : Loc) (a : Addr) : Prop := live r a ∨ a ∈ r.hid

structure GC where
  K : PySem.W.Frag
  mg : Str → Option Value

def KT (K : PySem.W.Frag) (a : Addr) (xs : List V) : Prop :=
  ∃ (o : Obj) (its : Array Value) (n : Nat), K.lookup a = some o ∧ o.cls = .type "tuple" ∧ o.data = .seq its n ∧ its.size ≤ sizeLine ∧ Vals xs its.toList
def KL (K : PySem.W.Frag) (a : Addr) (xs : List V) : Prop :=
  ∃ (o : Obj) (its : Array Value) (n : Nat), K.lookup a = some o ∧ o.cls = .type "list" ∧ o.dict = none ∧ o.data = .seq its n ∧ its.size ≤ sizeLine ∧ Vals xs its.toList
/-- a dict, locked or not -/
def DK (lk : Bool) (H : Hp) (a : Addr) (u : HO) : Prop := if lk = true then ∃ o, H a = some (.frz o u) else H a = some u
theorem DK.rd {lk : Bool} {H : Hp} {a : Addr} {u : HO} (h : DK lk H a u) : Rd H a u := by
  unfold DK at h
  split at h
  · exact .inr h
  · exact .inl h
def FT (K : PySem.W.Frag) (r : Loc) (H : Hp) (a : Addr) (xs : List V) : Prop := (Rd H a (.tup xs) ∧ ¬ av r a) ∨ KT K a xs
def FL (K : PySem.W.Frag) (r : Loc) (H : Hp) (a : Addr) (xs : List V) : Prop := (Rd H a (.lst xs) ∧ ¬ av r a) ∨ KL K a xs

mutual
def Rep (G : GC) (r : Loc) (H : Hp) : PV → V → Prop
  | .non, v => v = .non
  | .bl b, v => v = .bl b
  | .int i, v => v = .int i
  | .str x, v => v = .str x
  | .ty n, v => v = .ty n
  | .gl x, v => ∃ a, v = .ref a ∧ G.mg x = some (.ref a)
  | .tup xs, v => ∃ a vs, v = .ref a ∧ FT G.K r H a vs ∧ RepL G r H xs vs
  | .lst xs, v => ∃ a vs, v = .ref a ∧ H a = some (.lst vs) ∧ ¬ av r a ∧ RepL G r H xs vs
  | .rls xs, v => ∃ a vs, v = .ref a ∧ FL G.K r H a vs ∧ RepL G r H xs vs
  | .obj c ns fs, v => ∃ a C dx gs, v = .ref a ∧ G.mg c = some (.ref C) ∧ H a = some (.ins C dx (ns.zip gs)) ∧ ns.length = fs.length ∧ ¬ av r a ∧ RepL G r H fs gs
  | .loc l, v => l < r.s.length ∧ ∀ a, r.s[l]? = some (some a) → v = .ref a
  | .dct lk ks xs, v => ∃ a vs, v = .ref a ∧ DK lk H a (.dK (ks.zip vs)) ∧ ks.length = xs.length ∧ ¬ av r a ∧ RepL G r H xs vs
def RepL (G : GC) (r : Loc) (H : Hp) : List PV → List V → Prop
  | [], vs => vs = []
  | x :: xs, vs => ∃ v ws, vs = v :: ws ∧ Rep G r H x v ∧ RepL G r H xs ws
end

structure Step (r : Loc) (H : Hp) (r' : Loc) (H' : Hp) : Prop where
  keep : ∀ a o, ¬ live r a → H a = some o → H' a = some o
  there : ∀ a, H a ≠ none → H' a ≠ none
  len : r.s.length ≤ r'.s.length
  old : ∀ (l : Nat) (a : Addr), l < r.s.length → r'.s[l]? = some (some a) → r.s[l]? = some (some a)
  new : ∀ (l : Nat) (a : Addr), r.s.length ≤ l → r'.s[l]? = some (some a) → H a = none
  hid : r'.hid = r.hid

theorem live_at {r : Loc} {a : Addr} : live r a ↔ ∃ l : Nat, r.s[l]? = some (some a) := by
  unfold live; exact List.mem_iff_getElem?
theorem lt_of_get {α : Type} {l : List α} {i : Nat} {x : α} (h : l[i]? = some x) : i < l.length := (List.getElem?_eq_some_iff.mp h).1
theorem Step.live {r r' : Loc} {H H' : Hp} (s : Step r H r' H') {a : Addr} (h : CD.live r' a) : CD.live r a ∨ H a = none := by
  obtain ⟨l, e⟩ := live_at.mp h
  by_cases hl : l < r.s.length
  · exact .inl (live_at.mpr ⟨l, s.old l a hl e⟩)
  · exact .inr (s.new l a (Nat.le_of_not_lt hl) e)
theorem Step.dead {r r' : Loc} {H H' : Hp} (s : Step r H r' H') {a : Addr} {o : HO} (n : ¬ CD.live r a) (h : H a = some o) : ¬ CD.live r' a := fun z => by
  rcases s.live z with z | z
  · exact n z
  · rw [h] at z; cases z
theorem Step.nav {r r' : Loc} {H H' : Hp} (s : Step r H r' H') {a : Addr} {o : HO} (n : ¬ CD.av r a) (h : H a = some o) : ¬ CD.av r' a := fun z => by
  rcases z with z | z
  · exact s.dead (fun q => n (.inl q)) h z
  · rw [s.hid] at z; exact n (.inr z)
theorem av_live {r : Loc} {a : Addr} (n : ¬ av r a) : ¬ live r a := fun z => n (.inl z)
theorem Step.refl {r : Loc} {H : Hp} : Step r H r H := ⟨fun _ _ _ h => h, fun _ h => h, Nat.le_refl _, fun _ _ _ h => h, fun l a h e => absurd (lt_of_get e) (Nat.not_lt.mpr h), rfl⟩
theorem Step.trans {r r1 r2 : Loc} {H H1 H2 : Hp} (s : Step r H r1 H1) (t : Step r1 H1 r2 H2) : Step r H r2 H2 where
  keep := fun a o n h => t.keep a o (s.dead n h) (s.keep a o n h)
  there := fun a h => t.there a (s.there a h)
  len := Nat.le_trans s.len t.len
  old := fun l a h e => s.old l a h (t.old l a (Nat.lt_of_lt_of_le h s.len) e)
  hid := t.hid.trans s.hid
  new := fun l a h e => by
    by_cases hl : l < r1.s.length
    · exact s.new l a h (t.old l a hl e)
    · have q := t.new l a (Nat.le_of_not_lt hl) e
      cases z : H a with
      | none => rfl
      | some o => exact absurd q (s.there a (by rw [z]; exact fun y => by cases y))
/-- nothing that was tracked changes -/
theorem Step.same {r : Loc} {H H' : Hp} (h : ∀ a o, H a = some o → H' a = some o) : Step r H r H' :=
  ⟨fun a o _ e => h a o e, fun a e => by
    cases z : H a with
    | none => exact absurd z e
    | some o => rw [h a o z]; exact (fun y => by cases y), Nat.le_refl _, fun _ _ _ h => h, fun l a h e => absurd (lt_of_get e) (Nat.not_lt.mpr h), rfl⟩
theorem Step.new1 {r : Loc} {H : Hp} {p : Addr} {o : HO} (h : H p = none) : Step r H r (upd H p o) :=
  Step.same fun a u e => by rw [upd_ne (ne_of_none e h)]; exact e

/-- what values bear: the objects that are neither places nor hidden stand -/
structure Evo (r : Loc) (H : Hp) (r' : Loc) (H' : Hp) : Prop where
  keep : ∀ a o, ¬ av r a → H a = some o → H' a = some o
  there : ∀ a, H a ≠ none → H' a ≠ none
  len : r.s.length ≤ r'.s.length
  old : ∀ (l : Nat) (a : Addr), l < r.s.length → r'.s[l]? = some (some a) → r.s[l]? = some (some a)
  new : ∀ (l : Nat) (a : Addr), r.s.length ≤ l → r'.s[l]? = some (some a) → H a = none ∨ a ∈ r.hid
  hid : ∀ a ∈ r'.hid, a ∈ r.hid ∨ H a = none
theorem Step.evo {r r' : Loc} {H H' : Hp} (s : Step r H r' H') : Evo r H r' H' := ⟨fun a o n => s.keep a o (av_live n), s.there, s.len, s.old, fun l a h e => .inl (s.new l a h e), fun a m => .inl (by rw [← s.hid]; exact m)⟩
theorem Evo.nav {r r' : Loc} {H H' : Hp} (s : Evo r H r' H') {a : Addr} {o : HO} (n : ¬ CD.av r a) (h : H a = some o) : ¬ CD.av r' a := fun z => by
  rcases z with z | z
  · obtain ⟨l, e⟩ := live_at.mp z
    by_cases hl : l < r.s.length
    · exact n (.inl (live_at.mpr ⟨l, s.old l a hl e⟩))
    · rcases s.new l a (Nat.le_of_not_lt hl) e with q | q
      · rw [q] at h; cases h
      · exact n (.inr q)
  · rcases s.hid a z with z | z
    · exact n (.inr z)
    · rw [h] at z; cases z
theorem Evo.refl {r : Loc} {H : Hp} : Evo r H r H := Step.refl.evo
theorem Evo.trans {r r1 r2 : Loc} {H H1 H2 : Hp} (s : Evo r H r1 H1) (t : Evo r1 H1 r2 H2) : Evo r H r2 H2 where
  keep := fun a o n h => t.keep a o (s.nav n h) (s.keep a o n h)
  there := fun a h => t.there a (s.there a h)
  len := Nat.le_trans s.len t.len
  old := fun l a h e => s.old l a h (t.old l a (Nat.lt_of_lt_of_le h s.len) e)
  hid := fun a m => by
    rcases t.hid a m with z | z
    · exact s.hid a z
    · cases q : H a with
      | none => exact .inr rfl
      | some o => exact absurd z (s.there a (by rw [q]; exact fun y => by cases y))
  new := fun l a h e => by
    by_cases hl : l < r1.s.length
    · exact s.new l a h (t.old l a hl e)
    · rcases t.new l a (Nat.le_of_not_lt hl) e with q | q
      · cases z : H a with
        | none => exact .inl rfl
        | some o => exact absurd q (s.there a (by rw [z]; exact fun y => by cases y))
      · rcases s.hid a q with q | q
        · exact .inr q
        · exact .inl q
/-- an address is hidden: no value may lean on it -/
def Loc.hide (r : Loc) (D : Addr) : Loc := ⟨r.s, D :: r.hid⟩
theorem Evo.hide {r : Loc} {H : Hp} {D : Addr} {o : HO} (n : H D = none) : Evo r H (r.hide D) (upd H D o) :=
  ⟨fun a u _ e => by rw [upd_ne (ne_of_none e n)]; exact e, fun a e => by
    unfold upd; split
    · exact fun y => by cases y
    · exact e, Nat.le_refl _, fun _ _ _ h => h, fun l a h e => absurd (lt_of_get e) (Nat.not_lt.mpr h), fun a m => by
    rcases List.mem_cons.mp m with m | m
    · subst m; exact .inr n
    · exact .inl m⟩
theorem Evo.back {r : Loc} {H : Hp} {D : Addr} : Evo (r.hide D) H r H :=
  ⟨fun a u _ e => e, fun a e => e, Nat.le_refl _, fun _ _ _ h => h, fun l a h e => absurd (lt_of_get e) (Nat.not_lt.mpr h), fun a m => .inl (List.mem_cons_of_mem _ m)⟩
/-- a hidden object becomes a place -/
theorem Evo.adopt {r : Loc} {H : Hp} {D : Addr} : Evo (r.hide D) H ⟨r.s ++ [some D], r.hid⟩ H :=
  ⟨fun a u _ e => e, fun a e => e, by simp [Loc.hide], fun l a h e => by
    dsimp only [Loc.hide] at h e ⊢
    rw [List.getElem?_append_left h] at e; exact e, fun l a h e => by
    dsimp only [Loc.hide] at h e ⊢
    rw [List.getElem?_append_right h] at e
    have hz := lt_of_get e
    simp at hz
    have : l - r.s.length = 0 := by omega
    rw [this] at e; simp at e; subst e; exact .inr List.mem_cons_self, fun a m => .inl (List.mem_cons_of_mem _ m)⟩
/-- a hidden object changes -/
theorem Evo.wr {r : Loc} {H : Hp} {D : Addr} {o : HO} (m : D ∈ r.hid) : Evo r H r (upd H D o) :=
  ⟨fun a u n e => by rw [upd_ne (fun z => n (by subst z; exact .inr m))]; exact e, fun a e => by
    unfold upd; split
    · exact fun y => by cases y
    · exact e, Nat.le_refl _, fun _ _ _ h => h, fun l a h e => absurd (lt_of_get e) (Nat.not_lt.mpr h), fun a m => .inl m⟩

theorem DK.evo {lk : Bool} {r r' : Loc} {H H' : Hp} {a : Addr} {u : HO} (s : Evo r H r' H') (n : ¬ CD.av r a) (h : DK lk H a u) : DK lk H' a u ∧ ¬ CD.av r' a := by
  unfold DK at h ⊢
  split at h
  · rename_i z
    obtain ⟨o, h⟩ := h
    rw [if_pos z]; exact ⟨⟨o, s.keep a _ n h⟩, s.nav n h⟩
  · rename_i z
    rw [if_neg z]; exact ⟨s.keep a _ n h, s.nav n h⟩
theorem FT.sq {K : PySem.W.Frag} {r : Loc} {H : Hp} {a : Addr} {xs : List V} (h : FT K r H a xs) : SqT K H a xs := h.elim (fun h => .inl h.1) .inr
theorem FL.sq {K : PySem.W.Frag} {r : Loc} {H : Hp} {a : Addr} {xs : List V} (h : FL K r H a xs) : SqL K H a xs := h.elim (fun h => .inl h.1) .inr
theorem Evo.rd {r r' : Loc} {H H' : Hp} (s : Evo r H r' H') {a : Addr} {u : HO} (h : Rd H a u ∧ ¬ CD.av r a) : Rd H' a u ∧ ¬ CD.av r' a := by
  obtain ⟨h, n⟩ := h
  rcases h with h | ⟨o, h⟩
  · exact ⟨.inl (s.keep a _ n h), s.nav n h⟩
  · exact ⟨.inr ⟨o, s.keep a _ n h⟩, s.nav n h⟩
theorem FT.evo {K : PySem.W.Frag} {r r' : Loc} {H H' : Hp} {a : Addr} {xs : List V} (s : Evo r H r' H') (h : FT K r H a xs) : FT K r' H' a xs := h.elim (fun h => .inl (s.rd h)) .inr
theorem FL.evo {K : PySem.W.Frag} {r r' : Loc} {H H' : Hp} {a : Addr} {xs : List V} (s : Evo r H r' H') (h : FL K r H a xs) : FL K r' H' a xs := h.elim (fun h => .inl (s.rd h)) .inr

mutual
theorem Rep.evo {G : GC} {r r' : Loc} {H H' : Hp} (s : Evo r H r' H') : ∀ (p : PV) (v : V), Rep G r H p v → Rep G r' H' p v
  | .non, _, h => by simp only [Rep] at h ⊢; exact h
  | .bl _, _, h => by simp only [Rep] at h ⊢; exact h
  | .int _, _, h => by simp only [Rep] at h ⊢; exact h
  | .str _, _, h => by simp only [Rep] at h ⊢; exact h
  | .ty _, _, h => by simp only [Rep] at h ⊢; exact h
  | .gl _, _, h => by simp only [Rep] at h ⊢; exact h
  | .tup xs, v, h => by
    simp only [Rep] at h ⊢
    obtain ⟨a, vs, e, f, l⟩ := h
    exact ⟨a, vs, e, f.evo s, RepL.evo s xs vs l⟩
  | .lst xs, v, h => by
    simp only [Rep] at h ⊢
    obtain ⟨a, vs, e, f, n, l⟩ := h
    exact ⟨a, vs, e, s.keep a _ n f, s.nav n f, RepL.evo s xs vs l⟩
  | .rls xs, v, h => by
    simp only [Rep] at h ⊢
    obtain ⟨a, vs, e, f, l⟩ := h
    exact ⟨a, vs, e, f.evo s, RepL.evo s xs vs l⟩
  | .obj c ns fs, v, h => by
    simp only [Rep] at h ⊢
    obtain ⟨a, C, dx, gs, e, m, f, z, n, l⟩ := h
    exact ⟨a, C, dx, gs, e, m, s.keep a _ n f, z, s.nav n f, RepL.evo s fs gs l⟩
  | .loc l, v, h => by
    simp only [Rep] at h ⊢
    exact ⟨Nat.lt_of_lt_of_le h.1 s.len, fun a e => h.2 a (s.old l a h.1 e)⟩
  | .dct lk ks xs, v, h => by
    simp only [Rep] at h ⊢
    obtain ⟨a, vs, e, f, z, n, l⟩ := h
    exact ⟨a, vs, e, (f.evo s n).1, z, (f.evo s n).2, RepL.evo s xs vs l⟩
theorem RepL.evo {G : GC} {r r' : Loc} {H H' : Hp} (s : Evo r H r' H') : ∀ (p : List PV) (v : List V), RepL G r H p v → RepL G r' H' p v
  | [], _, h => by simp only [RepL] at h ⊢; exact h
  | x :: xs, vs, h => by
    simp only [RepL] at h ⊢
    obtain ⟨v, ws, e, a, b⟩ := h
    exact ⟨v, ws, e, Rep.evo s x v a, RepL.evo s xs ws b⟩
end

theorem Rep.step {G : GC} {r r' : Loc} {H H' : Hp} (s : Step r H r' H') (p : PV) (v : V) (h : Rep G r H p v) : Rep G r' H' p v := Rep.evo s.evo p v h
theorem RepL.step {G : GC} {r r' : Loc} {H H' : Hp} (s : Step r H r' H') (p : List PV) (v : List V) (h : RepL G r H p v) : RepL G r' H' p v := RepL.evo s.evo p v h

def CellOk (G : GC) (r : Loc) (H : Hp) (a : Addr) : Cell → Prop
  | .dead => False
  | .lst xs => ∃ vs, H a = some (.lst vs) ∧ RepL G r H xs vs
  | .ins c ns fs => ∃ C dx gs, G.mg c = some (.ref C) ∧ H a = some (.ins C dx (ns.zip gs)) ∧ ns.length = fs.length ∧ RepL G r H fs gs
  | .dct ks xs => ∃ vs, H a = some (.dK (ks.zip vs)) ∧ ks.length = xs.length ∧ RepL G r H xs vs
def isDead : Cell → Bool
  | .dead => true
  | _ => false
/-- the store stands -/
structure SRel (G : GC) (r : Loc) (H : Hp) (st : Store) : Prop where
  len : r.s.length = st.length
  at_ : ∀ (l : Nat) (a : Addr), r.s[l]? = some (some a) → ∃ c, st[l]? = some c ∧ CellOk G r H a c
  has : ∀ (l : Nat) (c : Cell), st[l]? = some c → isDead c = false → ∃ a, r.s[l]? = some (some a)
  inj : ∀ (l l' : Nat) (a : Addr), r.s[l]? = some (some a) → r.s[l']? = some (some a) → l = l'
  hd : ∀ a ∈ r.hid, H a ≠ none
  dis : ∀ a, live r a → a ∉ r.hid
theorem CellOk.obj {G : GC} {r : Loc} {H : Hp} {a : Addr} {c : Cell} (h : CellOk G r H a c) : ∃ o, H a = some o ∧ Mut (some o) := by
  cases c with
  | dead => exact h.elim
  | lst xs => obtain ⟨vs, e, _⟩ := h; exact ⟨_, e, trivial⟩
  | ins c ns fs => obtain ⟨C, dx, gs, _, e, _⟩ := h; exact ⟨_, e, trivial⟩
  | dct ks xs => obtain ⟨vs, e, _⟩ := h; exact ⟨_, e, trivial⟩
theorem SRel.obj {G : GC} {r : Loc} {H : Hp} {st : Store} (R : SRel G r H st) {a : Addr} (h : live r a) : ∃ o, H a = some o ∧ Mut (some o) := by
  obtain ⟨l, e⟩ := live_at.mp h
  obtain ⟨c, _, k⟩ := R.at_ l a e
  exact k.obj
theorem CellOk.evo {G : GC} {r r' : Loc} {H H' : Hp} {a : Addr} {c : Cell} (s : Evo r H r' H') (e : H' a = H a) (h : CellOk G r H a c) : CellOk G r' H' a c := by
  cases c with
  | dead => exact h.elim
  | lst xs => obtain ⟨vs, q, l⟩ := h; exact ⟨vs, e.trans q, RepL.evo s _ _ l⟩
  | ins c ns fs => obtain ⟨C, dx, gs, m, q, z, l⟩ := h; exact ⟨C, dx, gs, m, e.trans q, z, RepL.evo s _ _ l⟩
  | dct ks xs => obtain ⟨vs, q, z, l⟩ := h; exact ⟨vs, e.trans q, z, RepL.evo s _ _ l⟩
theorem CellOk.step {G : GC} {r r' : Loc} {H H' : Hp} {a : Addr} {c : Cell} (s : Step r H r' H') (e : H' a = H a) (h : CellOk G r H a c) : CellOk G r' H' a c := h.evo s.evo e
/-- what was tracked stands as it was -/
theorem SRel.same {G : GC} {r : Loc} {H H' : Hp} {st : Store} (R : SRel G r H st) (h : ∀ a o, H a = some o → H' a = some o) : SRel G r H' st where
  len := R.len
  at_ := fun l a e => by
    obtain ⟨c, e1, k⟩ := R.at_ l a e
    obtain ⟨o, q, _⟩ := k.obj
    exact ⟨c, e1, k.step (Step.same h) ((h a o q).trans q.symm)⟩
  has := R.has
  inj := R.inj
  hd := fun a m => by
    cases z : H a with
    | none => exact absurd z (R.hd a m)
    | some o => rw [h a o z]; exact (fun y => by cases y)
  dis := R.dis
theorem SRel.new1 {G : GC} {r : Loc} {H : Hp} {st : Store} {p : Addr} {o : HO} (R : SRel G r H st) (h : H p = none) : SRel G r (upd H p o) st :=
  R.same fun a u e => by rw [upd_ne (ne_of_none e h)]; exact e
theorem SRel.fresh {G : GC} {r : Loc} {H : Hp} {st : Store} {p : Addr} (R : SRel G r H st) (h : H p = none) : ¬ live r p := fun z => by
  obtain ⟨o, e, _⟩ := R.obj z
  rw [h] at e; cases e
theorem SRel.freshA {G : GC} {r : Loc} {H : Hp} {st : Store} {p : Addr} (R : SRel G r H st) (h : H p = none) : ¬ av r p := fun z => by
  rcases z with z | z
  · exact R.fresh h z
  · exact R.hd p z h
def Loc.more (r : Loc) (p : Addr) : Loc := ⟨r.s ++ [some p], r.hid⟩
theorem Step.more {r : Loc} {H : Hp} {p : Addr} {o : HO} (h : H p = none) : Step r H (r.more p) (upd H p o) := by
  refine ⟨fun a u _ e => by rw [upd_ne (ne_of_none e h)]; exact e, fun a e => ?_, by simp [Loc.more], fun l a hl e => ?_, fun l a hl e => ?_, rfl⟩
  · cases z : H a with
    | none => exact absurd z e
    | some u => rw [upd_ne (ne_of_none z h), z]; exact fun y => by cases y
  · unfold Loc.more at e; dsimp only at e; rw [List.getElem?_append_left hl] at e; exact e
  · unfold Loc.more at e; dsimp only at e
    rw [List.getElem?_append_right hl] at e
    have hz := lt_of_get e
    simp at hz
    have : l - r.s.length = 0 := by omega
    rw [this] at e; simp at e; subst e; exact h
/-- a new object becomes a place of the store -/
theorem SRel.alloc {G : GC} {r : Loc} {H : Hp} {st : Store} {p : Addr} {o : HO} {c : Cell} (R : SRel G r H st) (h : H p = none) (hc : CellOk G (r.more p) (upd H p o) p c) : SRel G (r.more p) (upd H p o) (st ++ [c]) := by
  have get : ∀ (l : Nat) (a : Addr), (r.more p).s[l]? = some (some a) → r.s[l]? = some (some a) ∨ (l = r.s.length ∧ a = p) := fun l a e => by
    unfold Loc.more at e; dsimp only at e
    by_cases hl : l < r.s.length
    · rw [List.getElem?_append_left hl] at e; exact .inl e
    · rw [List.getElem?_append_right (Nat.le_of_not_lt hl)] at e
      have hz := lt_of_get e
      simp at hz
      have : l = r.s.length := by omega
      subst this
      simp at e
      exact .inr ⟨rfl, e.symm⟩
  have keep : ∀ a o', H a = some o' → upd H p o a = some o' := fun a u e => by rw [upd_ne (ne_of_none e h)]; exact e
  have S : Step r H (r.more p) (upd H p o) := Step.more h
  refine ⟨by simp [Loc.more, R.len], fun l a e => ?_, fun l c' e hd => ?_, fun l l' a e1 e2 => ?_, fun a m => S.there a (R.hd a m), fun a z m => by
    obtain ⟨l, e⟩ := live_at.mp z
    rcases get l a e with q | ⟨_, rfl⟩
    · exact R.dis a (live_at.mpr ⟨l, q⟩) m
    · exact R.hd a m h⟩
  · rcases get l a e with q | ⟨rfl, rfl⟩
    · obtain ⟨c', e1, k⟩ := R.at_ l a q
      obtain ⟨u, e2, _⟩ := k.obj
      refine ⟨c', ?_, k.step S ((keep a u e2).trans e2.symm)⟩
      rw [List.getElem?_append_left (lt_of_get e1)]; exact e1
    · exact ⟨c, by rw [R.len, List.getElem?_append_right (Nat.le_refl _)]; simp, hc⟩
  · by_cases hl : l < st.length
    · rw [List.getElem?_append_left hl] at e
      obtain ⟨a, q⟩ := R.has l c' e hd
      exact ⟨a, by unfold Loc.more; dsimp only; rw [List.getElem?_append_left (lt_of_get q)]; exact q⟩
    · have hz := lt_of_get e
      simp at hz
      have : l = r.s.length := by rw [R.len]; omega
      subst this
      exact ⟨p, by simp [Loc.more]⟩
  · rcases get l a e1 with q1 | ⟨rfl, rfl⟩
    · rcases get l' a e2 with q2 | ⟨rfl, rfl⟩
      · exact R.inj l l' a q1 q2
      · exact absurd (live_at.mpr ⟨l, q1⟩) (R.fresh h)
    · rcases get l' a e2 with q2 | ⟨rfl, _⟩
      · exact absurd (live_at.mpr ⟨l', q2⟩) (R.fresh h)
      · rfl
/-- the object at a place is changed -/
theorem SRel.write {G : GC} {r : Loc} {H : Hp} {st : Store} {l : Nat} {a : Addr} {o : HO} {c : Cell} (R : SRel G r H st) (h : r.s[l]? = some (some a)) (hc : CellOk G r (upd H a o) a c) :
    Step r H r (upd H a o) ∧ SRel G r (upd H a o) (st.set l c) := by
  have S : Step r H r (upd H a o) := by
    refine ⟨fun b u n e => ?_, fun b e => ?_, Nat.le_refl _, fun _ _ _ h => h, fun l a h e => absurd (lt_of_get e) (Nat.not_lt.mpr h), rfl⟩
    · rw [upd_ne (fun z => n (by subst z; exact live_at.mpr ⟨l, h⟩))]; exact e
    · unfold upd; split
      · exact fun y => by cases y
      · exact e
  have hl : l < st.length := by rw [← R.len]; exact lt_of_get h
  refine ⟨S, by simp [R.len], fun l' b e => ?_, fun l' c' e hd => ?_, R.inj, fun a m => S.there a (R.hd a m), R.dis⟩
  · by_cases hz : l' = l
    · subst hz
      rw [h] at e
      have : a = b := by simpa using e
      subst this
      exact ⟨c, by simp [hl], hc⟩
    · obtain ⟨c', e1, k⟩ := R.at_ l' b e
      refine ⟨c', by rw [List.getElem?_set_ne (Ne.symm hz)]; exact e1, k.step S (upd_ne fun z => hz (by subst z; exact R.inj _ _ _ e h))⟩
  · by_cases hz : l' = l
    · subst hz; exact ⟨a, h⟩
    · rw [List.getElem?_set_ne (Ne.symm hz)] at e
      exact R.has l' c' e hd
/-- a place is given up: what stood there does not change any more -/
def Loc.kill (r : Loc) (l : Nat) : Loc := ⟨r.s.set l none, r.hid⟩
theorem kill_at {r : Loc} {l l' : Nat} {a : Addr} (e : (r.kill l).s[l']? = some (some a)) : l' ≠ l ∧ r.s[l']? = some (some a) := by
  unfold Loc.kill at e; dsimp only at e
  rw [List.getElem?_set] at e
  split at e
  · split at e
    · simp at e
    · cases e
  · rename_i h; exact ⟨fun z => h z.symm, e⟩
theorem Step.kill {r : Loc} {H : Hp} {l : Nat} : Step r H (r.kill l) H :=
  ⟨fun _ _ _ h => h, fun _ h => h, by simp [Loc.kill], fun l' a _ e => (kill_at e).2, fun l' a h e => absurd (lt_of_get (kill_at e).2) (Nat.not_lt.mpr h), rfl⟩
theorem SRel.kill {G : GC} {r : Loc} {H : Hp} {st : Store} {l : Nat} (R : SRel G r H st) : SRel G (r.kill l) H (st.set l .dead) where
  len := by simp [Loc.kill, R.len]
  at_ := fun l' a e => by
    obtain ⟨n, e⟩ := kill_at e
    obtain ⟨c, e1, k⟩ := R.at_ l' a e
    exact ⟨c, by rw [List.getElem?_set_ne (Ne.symm n)]; exact e1, k.step Step.kill rfl⟩
  has := fun l' c e hd => by
    rw [List.getElem?_set] at e
    split at e
    · split at e
      · cases e; cases hd
      · cases e
    · rename_i h
      obtain ⟨a, q⟩ := R.has l' c e hd
      exact ⟨a, by unfold Loc.kill; dsimp only; rw [List.getElem?_set_ne h]; exact q⟩
  inj := fun l1 l2 a e1 e2 => R.inj l1 l2 a (kill_at e1).2 (kill_at e2).2
  hd := R.hd
  dis := fun a z m => by
    obtain ⟨l', e⟩ := live_at.mp z
    exact R.dis a (live_at.mpr ⟨l', (kill_at e).2⟩) m

/-! ### hidden objects -/
theorem SRel.hide {G : GC} {r : Loc} {H : Hp} {st : Store} {D : Addr} {o : HO} (R : SRel G r H st) (n : H D = none) : SRel G (r.hide D) (upd H D o) st where
  len := R.len
  at_ := fun l a e => by
    obtain ⟨c, e1, k⟩ := R.at_ l a e
    obtain ⟨u, q, _⟩ := k.obj
    exact ⟨c, e1, k.evo (Evo.hide n) (upd_ne (ne_of_none q n))⟩
  has := R.has
  inj := R.inj
  hd := fun a m => by
    by_cases h : a = D
    · subst h; rw [upd_same]; exact fun y => by cases y
    · rw [upd_ne h]
      rcases List.mem_cons.mp m with m | m
      · exact absurd m h
      · exact R.hd a m
  dis := fun a z m => by
    rcases List.mem_cons.mp m with m | m
    · subst m; exact R.fresh n z
    · exact R.dis a z m
theorem SRel.back {G : GC} {r : Loc} {H : Hp} {st : Store} {D : Addr} (R : SRel G (r.hide D) H st) : SRel G r H st where
  len := R.len
  at_ := fun l a e => let ⟨c, e1, k⟩ := R.at_ l a e; ⟨c, e1, k.evo Evo.back rfl⟩
  has := R.has
  inj := R.inj
  hd := fun a m => R.hd a (List.mem_cons_of_mem _ m)
  dis := fun a z m => R.dis a z (List.mem_cons_of_mem _ m)
/-- a hidden object, that is no place, changes -/
theorem SRel.wr {G : GC} {r : Loc} {H : Hp} {st : Store} {D : Addr} {o : HO} (R : SRel G r H st) (m : D ∈ r.hid) (nl : ¬ live r D) : SRel G r (upd H D o) st where
  len := R.len
  at_ := fun l a e => let ⟨c, e1, k⟩ := R.at_ l a e; ⟨c, e1, k.evo (Evo.wr m) (upd_ne fun z => nl (by subst z; exact live_at.mpr ⟨l, e⟩))⟩
  has := R.has
  inj := R.inj
  hd := fun a m' => (Evo.wr m).there a (R.hd a m')
  dis := R.dis
/-- a new object that stands already becomes a place of the store -/
theorem SRel.adopt {G : GC} {r : Loc} {H : Hp} {st : Store} {p : Addr} {c : Cell} (R : SRel G r H st) (nl : ¬ live r p) (nh : p ∉ r.hid) (h0 : H p ≠ none) (hR : ∀ (l : Nat) (a : Addr) (c' : Cell), r.s[l]? = some (some a) → st[l]? = some c' → CellOk G r H a c' → CellOk G (r.more p) H a c') (hc : CellOk G (r.more p) H p c) : SRel G (r.more p) H (st ++ [c]) := by
  have get : ∀ (l : Nat) (a : Addr), (r.more p).s[l]? = some (some a) → r.s[l]? = some (some a) ∨ (l = r.s.length ∧ a = p) := fun l a e => by
    unfold Loc.more at e; dsimp only at e
    by_cases hl : l < r.s.length
    · rw [List.getElem?_append_left hl] at e; exact .inl e
    · rw [List.getElem?_append_right (Nat.le_of_not_lt hl)] at e
      have hz := lt_of_get e
      simp at hz
      have : l = r.s.length := by omega
      subst this
      simp at e
      exact .inr ⟨rfl, e.symm⟩
  refine ⟨by simp [Loc.more, R.len], fun l a e => ?_, fun l c' e hd => ?_, fun l l' a e1 e2 => ?_, fun a m => R.hd a m, fun a z m => by
    obtain ⟨l, e⟩ := live_at.mp z
    rcases get l a e with q | ⟨_, rfl⟩
    · exact R.dis a (live_at.mpr ⟨l, q⟩) m
    · exact nh m⟩
  · rcases get l a e with q | ⟨rfl, rfl⟩
    · obtain ⟨c', e1, k⟩ := R.at_ l a q
      refine ⟨c', ?_, hR l a c' q e1 k⟩
      rw [List.getElem?_append_left (lt_of_get e1)]; exact e1
    · exact ⟨c, by rw [R.len, List.getElem?_append_right (Nat.le_refl _)]; simp, hc⟩
  · by_cases hl : l < st.length
    · rw [List.getElem?_append_left hl] at e
      obtain ⟨a, q⟩ := R.has l c' e hd
      exact ⟨a, by unfold Loc.more; dsimp only; rw [List.getElem?_append_left (lt_of_get q)]; exact q⟩
    · have hz := lt_of_get e
      simp at hz
      have : l = r.s.length := by rw [R.len]; omega
      subst this
      exact ⟨p, by simp [Loc.more]⟩
  · rcases get l a e1 with q1 | ⟨rfl, rfl⟩
    · rcases get l' a e2 with q2 | ⟨rfl, rfl⟩
      · exact R.inj l l' a q1 q2
      · exact absurd (live_at.mpr ⟨l, q1⟩) nl
    · rcases get l' a e2 with q2 | ⟨rfl, _⟩
      · exact absurd (live_at.mpr ⟨l', q2⟩) nl
      · rfl

theorem RepL.len {G : GC} {r : Loc} {H : Hp} : ∀ {p : List PV} {v : List V}, RepL G r H p v → p.length = v.length
  | [], _, h => by simp only [RepL] at h; subst h; rfl
  | x :: xs, vs, h => by
    simp only [RepL] at h
    obtain ⟨v, ws, rfl, _, b⟩ := h
    simp [RepL.len b]
theorem RepL.get {G : GC} {r : Loc} {H : Hp} : ∀ {p : List PV} {v : List V} {i : Nat} {x : PV}, RepL G r H p v → p[i]? = some x → ∃ y, v[i]? = some y ∧ Rep G r H x y
  | [], _, _, _, _, e => by simp at e
  | x :: xs, vs, i, y, h, e => by
    simp only [RepL] at h
    obtain ⟨v, ws, rfl, a, b⟩ := h
    cases i with
    | zero => simp at e; subst e; exact ⟨v, rfl, a⟩
    | succ i => simp at e; obtain ⟨z, q, c⟩ := RepL.get b e; exact ⟨z, by simpa using q, c⟩
theorem RepL.getV {G : GC} {r : Loc} {H : Hp} {p : List PV} {v : List V} {i : Nat} {y : V} (h : RepL G r H p v) (e : v[i]? = some y) : ∃ x, p[i]? = some x ∧ Rep G r H x y := by
  have hi : i < p.length := by rw [h.len]; exact lt_of_get e
  obtain ⟨z, q, c⟩ := h.get (List.getElem?_eq_getElem hi)
  rw [e] at q; cases q
  exact ⟨_, List.getElem?_eq_getElem hi, c⟩
theorem RepL.nil {G : GC} {r : Loc} {H : Hp} : RepL G r H [] [] := by simp only [RepL]
theorem RepL.cons {G : GC} {r : Loc} {H : Hp} {x : PV} {v : V} {xs : List PV} {vs : List V} (a : Rep G r H x v) (b : RepL G r H xs vs) : RepL G r H (x :: xs) (v :: vs) := by
  simp only [RepL]; exact ⟨v, vs, rfl, a, b⟩
theorem RepL.append {G : GC} {r : Loc} {H : Hp} : ∀ {p q : List PV} {v w : List V}, RepL G r H p v → RepL G r H q w → RepL G r H (p ++ q) (v ++ w)
  | [], _, _, _, h, k => by simp only [RepL] at h; subst h; exact k
  | x :: xs, q, vs, w, h, k => by
    simp only [RepL] at h
    obtain ⟨v, ws, rfl, a, b⟩ := h
    exact RepL.cons a (RepL.append b k)
theorem RepL.of_get {G : GC} {r : Loc} {H : Hp} : ∀ {p : List PV} {v : List V}, p.length = v.length → (∀ (i : Nat) (x : PV) (y : V), p[i]? = some x → v[i]? = some y → Rep G r H x y) → RepL G r H p v
  | [], v, h, _ => by cases v with | nil => exact RepL.nil | cons _ _ => simp at h
  | x :: xs, v, h, k => by
    cases v with
    | nil => simp at h
    | cons y ys => exact RepL.cons (k 0 x y rfl rfl) (RepL.of_get (by simpa using h) fun i a b e1 e2 => k (i + 1) a b (by simpa using e1) (by simpa using e2))
theorem RepL.take {G : GC} {r : Loc} {H : Hp} {p : List PV} {v : List V} (h : RepL G r H p v) (n : Nat) : RepL G r H (p.take n) (v.take n) :=
  RepL.of_get (by simp [h.len]) fun i x y e1 e2 => by
    rw [List.getElem?_take] at e1 e2
    split at e1
    · rename_i hi; rw [if_pos hi] at e2
      obtain ⟨z, q, c⟩ := h.get e1; rw [e2] at q; cases q; exact c
    · cases e1
theorem RepL.drop {G : GC} {r : Loc} {H : Hp} {p : List PV} {v : List V} (h : RepL G r H p v) (n : Nat) : RepL G r H (p.drop n) (v.drop n) :=
  RepL.of_get (by simp [h.len]) fun i x y e1 e2 => by
    rw [List.getElem?_drop] at e1 e2
    obtain ⟨z, q, c⟩ := h.get e1; rw [e2] at q; cases q; exact c
theorem RepL.set {G : GC} {r : Loc} {H : Hp} {p : List PV} {v : List V} (h : RepL G r H p v) (n : Nat) {x : PV} {y : V} (k : Rep G r H x y) : RepL G r H (p.set n x) (v.set n y) :=
  RepL.of_get (by simp [h.len]) fun i a b e1 e2 => by
    rw [List.getElem?_set] at e1 e2
    split at e1
    · rename_i hi
      rw [if_pos hi] at e2
      split at e1
      · rename_i h1; cases e1
        rw [if_pos (by rw [← h.len]; exact h1)] at e2; cases e2; exact k
      · cases e1
    · rename_i hi
      rw [if_neg hi] at e2
      obtain ⟨z, q, c⟩ := h.get e1; rw [e2] at q; cases q; exact c
theorem RepL.eraseIdx {G : GC} {r : Loc} {H : Hp} {p : List PV} {v : List V} (h : RepL G r H p v) (n : Nat) : RepL G r H (p.eraseIdx n) (v.eraseIdx n) := by
  rw [List.eraseIdx_eq_take_drop_succ, List.eraseIdx_eq_take_drop_succ]
  exact (h.take n).append (h.drop (n + 1))
theorem RepL.reverse {G : GC} {r : Loc} {H : Hp} : ∀ {p : List PV} {v : List V}, RepL G r H p v → RepL G r H p.reverse v.reverse
  | [], _, h => by simp only [RepL] at h; subst h; exact RepL.nil
  | x :: xs, vs, h => by
    simp only [RepL] at h
    obtain ⟨v, ws, rfl, a, b⟩ := h
    rw [List.reverse_cons, List.reverse_cons]
    exact (RepL.reverse b).append (RepL.cons a RepL.nil)

end CD

set_option Elab.async false
set_option linter.all false
set_option maxRecDepth 100000
set_option maxHeartbeats 2000000
namespace CD
open PySem PySem.Spec PyProof.Rows L2

abbrev St := L2.St
/-! ### what is wanted behind a computation -/
def ExcR (G : GC) (r : Loc) (H : Hp) (e : PX) (cls : Value) (dd : Option Addr) : Prop :=
  ∃ C, G.mg e.c = some (.ref C) ∧ cls = .ref C ∧ ((e.ns = [] ∧ dd = none) ∨ ∃ d gs, dd = some d ∧ H d = some (.xd (e.ns.zip gs)) ∧ ¬ av r d ∧ e.ns.length = e.fs.length ∧ RepL G r H e.fs gs)
def Post {β : Type} (G : GC) (W : Value → Option Addr → Hp → Prop) (r : Loc) (H : Hp) (res : Res β) (C : β → Store → Loc → Hp → Prop) : Prop :=
  match res with
  | .stuck => False
  | .ok b st => ∀ r' H', Step r H r' H' → SRel G r' H' st → C b st r' H'
  | .exc e _ st => ∀ r' H' cls dd, Step r H r' H' → SRel G r' H' st → ExcR G r' H' e cls dd → W cls dd H'
theorem Post.mono {β : Type} {G : GC} {W : Value → Option Addr → Hp → Prop} {r r1 : Loc} {H H1 : Hp} {res : Res β} {C : β → Store → Loc → Hp → Prop} (s : Step r H r1 H1) (h : Post G W r H res C) : Post G W r1 H1 res C := by
  cases res with
  | stuck => exact h
  | ok b st => exact fun r' H' t => h r' H' (s.trans t)
  | exc e v st => exact fun r' H' cls dd t => h r' H' cls dd (s.trans t)
theorem Post.imp {β : Type} {G : GC} {W : Value → Option Addr → Hp → Prop} {r : Loc} {H : Hp} {res : Res β} {C D : β → Store → Loc → Hp → Prop} (h : Post G W r H res C)
    (f : ∀ b st r' H', Step r H r' H' → SRel G r' H' st → C b st r' H' → D b st r' H') : Post G W r H res D := by
  cases res with
  | stuck => exact h
  | ok b st => exact fun r' H' t R => f b st r' H' t R (h r' H' t R)
  | exc e v st => exact h
theorem Post.bind {β γ : Type} {G : GC} {W : Value → Option Addr → Hp → Prop} {r : Loc} {H : Hp} {res : Res β} {k : β → Store → Res γ} {C : γ → Store → Loc → Hp → Prop} (h : Post G W r H (res.bind k) C) :
    Post G W r H res (fun b st r' H' => Post G W r' H' (k b st) C) := by
  cases res with
  | stuck => exact h
  | ok b st => exact fun r' H' t _ => Post.mono t h
  | exc e v st => exact h

def okE (G : GC) (Q : VK) : PV → Store → Loc → Hp → Prop := fun p _ r H => ∀ v, Rep G r H p v → Q v H
def okA (G : GC) (Q : List V → Hp → Prop) : List PV → Store → Loc → Hp → Prop := fun p _ r H => ∀ v, RepL G r H p v → Q v H
def okT (Q : Bool → Hp → Prop) : Bool → Store → Loc → Hp → Prop := fun b _ _ H => Q b H

/-- the slots hold what the names are worth -/
def EnvR (G : GC) (r : Loc) (H : Hp) (s : St) (env : PEnv) : Prop := s.length = env.length ∧ ∀ (i : Nat) (p : PV), env[i]? = some (some p) → ∃ v, s[i]? = some (some v) ∧ Rep G r H p v
theorem EnvR.step {G : GC} {r r1 : Loc} {H H1 : Hp} {s : St} {env : PEnv} (t : Step r H r1 H1) (e : EnvR G r H s env) : EnvR G r1 H1 s env :=
  ⟨e.1, fun i p h => let ⟨v, h1, h2⟩ := e.2 i p h; ⟨v, h1, Rep.step t p v h2⟩⟩
theorem EnvR.set {G : GC} {r : Loc} {H : Hp} {s : St} {env : PEnv} (e : EnvR G r H s env) {i : Nat} {p : PV} {v : V} (h : Rep G r H p v) : EnvR G r H (s.set i (some v)) (env.set i (some p)) := by
  refine ⟨by simp [e.1], fun j q hj => ?_⟩
  rw [List.getElem?_set] at hj
  split at hj
  · rename_i hi
    subst hi
    split at hj
    · rename_i hl
      cases hj
      exact ⟨v, by rw [List.getElem?_set_self (by rw [e.1]; exact hl)], h⟩
    · cases hj
  · rename_i hi
    obtain ⟨w, h1, h2⟩ := e.2 j q hj
    exact ⟨w, by rw [List.getElem?_set_ne hi]; exact h1, h2⟩

abbrev gc (X : Cx) : GC := ⟨X.K, X.mg⟩

structure SE (X : Cx) (W : WX) (e : Expr) (t : TE) (d : DE) : Prop where
  pe : PE X e t
  so : ∀ r s H env st Q, EnvR (gc X) r H s env → SRel (gc X) r H st → Post (gc X) (fun c d H => W c d s H) r H (d env st) (okE (gc X) Q) → t s H Q
structure SA (X : Cx) (W : WX) (es : List Expr) (t : TA) (d : PEnv → M (List PV)) : Prop where
  pa : PA X es t
  so : ∀ r s H env st Q, EnvR (gc X) r H s env → SRel (gc X) r H st → Post (gc X) (fun c d H => W c d s H) r H (d env st) (okA (gc X) Q) → t s H Q
structure SB (X : Cx) (W : WX) (e : Expr) (t : TT) (d : PEnv → M Bool) : Prop where
  pt : PT X e t
  so : ∀ r s H env st Q, EnvR (gc X) r H s env → SRel (gc X) r H st → Post (gc X) (fun c d H => W c d s H) r H (d env st) (okT Q) → t s H Q
structure SW (X : Cx) (W : WX) (e : Expr) (t : TT) (d : PEnv → M Bool) : Prop where
  pw : PW X e t
  so : ∀ r s H env st Q, EnvR (gc X) r H s env → SRel (gc X) r H st → Post (gc X) (fun c d H => W c d s H) r H (d env st) (okT Q) → t s H Q

variable {X : Cx} {W : WX}

/-! ### names, constants -/
def dV (i : Nat) : DE := fun env st => match env[i]? with
  | some (some p) => .ok p st
  | _ => .stuck
def dC (p : PV) : DE := fun _ st => .ok p st
theorem se_var (i : Nat) {x : Str} {pos : Pos} (hN : X.N[i]? = some x := by rfl) (hv : Vis X.env.scope x := by first | exact Or.inl rfl | exact Or.inr (Or.inl rfl) | exact Or.inr (Or.inr rfl)) (hd : (x == ("__debug__" : Str)) = false := by decide)
    (hcd : (x == ("__classdict__" : Str)) = false := by decide) : SE X W (.Name x pos) (tVar i) (dV i) := by
  refine ⟨pe_var hN hv hd hcd, fun r s H env st Q E R h => ?_⟩
  unfold dV at h
  split at h
  · rename_i p hp
    obtain ⟨v, e, k⟩ := E.2 i p hp
    exact ⟨v, e, h r H Step.refl R v k⟩
  · exact h.elim
theorem se_int {i j pos} : SE X W (.Constant (.int i) j pos) (tC (.int i)) (dC (.int i)) := ⟨pe_int, fun r s H env st Q E R h => h r H Step.refl R _ rfl⟩
theorem se_bl {i j pos} : SE X W (.Constant (.bool i) j pos) (tC (.bl i)) (dC (.bl i)) := ⟨pe_bl, fun r s H env st Q E R h => h r H Step.refl R _ rfl⟩
theorem se_non {j pos} : SE X W (.Constant .none j pos) (tC .non) (dC .non) := ⟨pe_non, fun r s H env st Q E R h => h r H Step.refl R _ rfl⟩
theorem se_str {i j pos} : SE X W (.Constant (.str i) j pos) (tC (.str i)) (dC (.str i)) := ⟨pe_str, fun r s H env st Q E R h => h r H Step.refl R _ rfl⟩
theorem se_ty {x : Str} {n : String} {pos : Pos} (hg : Gl X x) (hm : X.mg x = none) (hv : bootBuiltins x = some (.type n)) (hn : x ≠ "__name__" := by decide) (hd : (x == ("__debug__" : Str)) = false := by decide) :
    SE X W (.Name x pos) (tC (.ty n)) (dC (.ty n)) := ⟨pe_bltn hg hm hv rfl hn hd, fun r s H env st Q E R h => h r H Step.refl R _ rfl⟩
/-- a class or def of the program -/
theorem se_gl {x : Str} {a : Addr} {pos : Pos} (hg : Gl X x) (hm : X.mg x = some (.ref a)) (hd : (x == ("__debug__" : Str)) = false := by decide) :
    SE X W (.Name x pos) (tC (.ref a)) (dC (.gl x)) := ⟨pe_glob hg hm rfl hd, fun r s H env st Q E R h => h r H Step.refl R _ ⟨a, rfl, hm⟩⟩
/-- an int constant of the module -/
theorem se_gi {x : Str} {i : Int} {t : Tok} {pos : Pos} (hg : Gl X x) (hm : X.mg x = some (.int i t)) (hd : (x == ("__debug__" : Str)) = false := by decide) :
    SE X W (.Name x pos) (tC (.int i)) (dC (.int i)) := ⟨pe_glob hg hm ⟨t, rfl⟩ hd, fun r s H env st Q E R h => h r H Step.refl R _ rfl⟩

/-! ### two operands, by values -/
def SOp (G : GC) (r2 : R2) (f : PV → PV → M PV) : Prop :=
  ∀ (r : Loc) (H : Hp) (st : Store) (p q : PV) (x y : V) (E : Value → Option Addr → Hp → Prop) (Q : VK), SRel G r H st → Rep G r H p x → Rep G r H q y → Post G E r H (f p q st) (okE G Q) → r2 x y H Q
def d2 (f : PV → PV → M PV) (a b : DE) : DE := fun env st => (a env st).bind fun p st => (b env st).bind fun q st => f p q st
theorem so2 {a b : Expr} {ta tb : TE} {da db : DE} {r2 : R2} {f : PV → PV → M PV} (ha : SE X W a ta da) (hb : SE X W b tb db) (hf : SOp (gc X) r2 f) :
    ∀ r s H env st Q, EnvR (gc X) r H s env → SRel (gc X) r H st → Post (gc X) (fun c d H => W c d s H) r H (d2 f da db env st) (okE (gc X) Q) → tOp r2 ta tb s H Q := by
  intro r s H env st Q E R h
  refine ha.so r s H env st _ E R (h.bind.imp fun p st1 r1 H1 t1 R1 h1 x hx => ?_)
  refine hb.so r1 s H1 env st1 _ (E.step t1) R1 (h1.bind.imp fun q st2 r2' H2 t2 R2 h2 y hy => ?_)
  exact hf r2' H2 st2 p q x y _ _ R2 (Rep.step t2 p x hx) hy h2
theorem se_op {op : Operator} {r2 : R2} {f : PV → PV → M PV} {a b : Expr} {ta tb : TE} {da db : DE} {pos : Pos} (ho : OpR X (binaryOp op) r2) (hf : SOp (gc X) r2 f) (ha : SE X W a ta da) (hb : SE X W b tb db) :
    SE X W (.BinOp a op b pos) (tOp r2 ta tb) (d2 f da db) := ⟨pe_op ho ha.pe hb.pe, so2 ha hb hf⟩
theorem se_cmp {op : CmpOp} {r2 : R2} {f : PV → PV → M PV} {a b : Expr} {ta tb : TE} {da db : DE} {pos : Pos} (ho : OpR X (compareOp op) r2) (hf : SOp (gc X) r2 f) (hm : behindInMarks op b = false) (ha : SE X W a ta da) (hb : SE X W b tb db) :
    SE X W (.Compare a [op] [b] pos) (tOp r2 ta tb) (d2 f da db) := ⟨pe_cmpR ho ha.pe hb.pe hm, so2 ha hb hf⟩
def toB : PV → M Bool
  | .bl b => fun st => .ok b st
  | _ => fun _ => .stuck
def dB (d : DE) : PEnv → M Bool := fun env st => (d env st).bind toB
theorem Post.toB {G : GC} {E : Value → Option Addr → Hp → Prop} {r : Loc} {H : Hp} {st : Store} {p : PV} {v : V} {Q : Bool → Hp → Prop} (R : SRel G r H st) (h : Post G E r H (CD.toB p st) (okT Q)) (k : Rep G r H p v) : ∃ b, v = .bl b ∧ Q b H := by
  cases p with
  | bl b => simp only [Rep] at k; exact ⟨b, k, h r H Step.refl R⟩
  | _ => exact h.elim
theorem sb_cmp {op : CmpOp} {r2 : R2} {f : PV → PV → M PV} {a b : Expr} {ta tb : TE} {da db : DE} {pos : Pos} (ho : OpR X (compareOp op) r2) (hf : SOp (gc X) r2 f) (hm : behindInMarks op b = false) (ha : SE X W a ta da) (hb : SE X W b tb db) :
    SB X W (.Compare a [op] [b] pos) (tTest (tOp r2 ta tb)) (dB (d2 f da db)) := by
  refine ⟨pt_cmpR ho ha.pe hb.pe hm, fun r s H env st Q E R h => ?_⟩
  exact so2 ha hb hf r s H env st _ E R (h.bind.imp fun p st1 r1 H1 t1 R1 h1 x hx => h1.toB R1 hx)

/-! ### reading lists and tuples -/
def tupOf : PV → Option (List PV)
  | .tup xs => some xs
  | _ => none
def lstOf (st : Store) : PV → Option (List PV)
  | .lst xs => some xs
  | .loc l => match st[l]? with
    | some (.lst xs) => some xs
    | _ => none
  | _ => none
def sqlOf (st : Store) : PV → Option (List PV)
  | .rls xs => some xs
  | p => lstOf st p
theorem tupOf_ok {G : GC} {r : Loc} {H : Hp} {p : PV} {v : V} {xs : List PV} (k : Rep G r H p v) (h : tupOf p = some xs) : ∃ a vs, v = .ref a ∧ FT G.K r H a vs ∧ RepL G r H xs vs := by
  cases p with
  | tup ys => cases h; simpa only [Rep] using k
  | _ => cases h
theorem loc_ok {G : GC} {r : Loc} {H : Hp} {st : Store} {l : Nat} {v : V} {c : Cell} (R : SRel G r H st) (k : Rep G r H (.loc l) v) (h : st[l]? = some c) (hd : isDead c = false) :
    ∃ a, v = .ref a ∧ r.s[l]? = some (some a) ∧ CellOk G r H a c := by
  simp only [Rep] at k
  obtain ⟨a, ha⟩ := R.has l c h hd
  obtain ⟨c', e, ok⟩ := R.at_ l a ha
  rw [h] at e; cases e
  exact ⟨a, k.2 a ha, ha, ok⟩
theorem lstOf_ok {G : GC} {r : Loc} {H : Hp} {st : Store} {p : PV} {v : V} {xs : List PV} (R : SRel G r H st) (k : Rep G r H p v) (h : lstOf st p = some xs) : ∃ a vs, v = .ref a ∧ H a = some (.lst vs) ∧ RepL G r H xs vs := by
  cases p with
  | lst ys => cases h; simp only [Rep] at k; obtain ⟨a, vs, e, f, _, l⟩ := k; exact ⟨a, vs, e, f, l⟩
  | loc l =>
    simp only [lstOf] at h
    split at h
    · rename_i ys hl
      cases h
      obtain ⟨a, e, _, vs, q, z⟩ := loc_ok R k hl rfl
      exact ⟨a, vs, e, q, z⟩
    · cases h
  | _ => cases h
theorem sqlOf_ok {G : GC} {r : Loc} {H : Hp} {st : Store} {p : PV} {v : V} {xs : List PV} (R : SRel G r H st) (k : Rep G r H p v) (h : sqlOf st p = some xs) : ∃ a vs, v = .ref a ∧ SqL G.K H a vs ∧ RepL G r H xs vs := by
  by_cases hr : ∃ ys, p = .rls ys
  · obtain ⟨ys, rfl⟩ := hr
    cases h
    simp only [Rep] at k
    obtain ⟨a, vs, e, f, l⟩ := k
    exact ⟨a, vs, e, f.sq, l⟩
  · have : lstOf st p = some xs := by
      cases p with
      | rls ys => exact absurd ⟨ys, rfl⟩ hr
      | _ => exact h
    obtain ⟨a, vs, e, f, l⟩ := lstOf_ok R k this
    exact ⟨a, vs, e, SqL.of f, l⟩
/-- the items of a tuple or a list -/
def seqOf (st : Store) (p : PV) : Option (List PV) := match tupOf p with
  | some xs => some xs
  | none => sqlOf st p
theorem seqOf_ok {G : GC} {r : Loc} {H : Hp} {st : Store} {p : PV} {v : V} {xs : List PV} (R : SRel G r H st) (k : Rep G r H p v) (h : seqOf st p = some xs) : ∃ a vs, v = .ref a ∧ (SqL G.K H a vs ∨ SqT G.K H a vs) ∧ RepL G r H xs vs := by
  unfold seqOf at h
  split at h
  · rename_i ys hy
    cases h
    obtain ⟨a, vs, e, f, l⟩ := tupOf_ok k hy
    exact ⟨a, vs, e, .inr f.sq, l⟩
  · obtain ⟨a, vs, e, f, l⟩ := sqlOf_ok R k h
    exact ⟨a, vs, e, .inl f, l⟩

/-! ### arithmetic -/
def okM (p : PV) : M PV := fun st => .ok p st
def nope {α : Type} : M α := fun _ => .stuck
def iteM {α : Type} (c : Prop) [Decidable c] (m : M α) : M α := if c then m else nope
theorem Post.iteM {β : Type} {G : GC} {E : Value → Option Addr → Hp → Prop} {r : Loc} {H : Hp} {c : Prop} [Decidable c] {m : M β} {st : Store} {C : β → Store → Loc → Hp → Prop} (h : Post G E r H (CD.iteM c m st) C) : c ∧ Post G E r H (m st) C := by
  unfold CD.iteM at h
  by_cases hc : c
  · rw [if_pos hc] at h; exact ⟨hc, h⟩
  · rw [if_neg hc] at h; exact h.elim
def int2 (C : Int → Int → Prop) [∀ i j, Decidable (C i j)] (g : Int → Int → PV) : PV → PV → M PV
  | .int i, .int j => iteM (C i j) (okM (g i j))
  | _, _ => nope
theorem sop_int {G : GC} {C : Int → Int → Prop} [∀ i j, Decidable (C i j)] {g : Int → Int → PV} {gv : Int → Int → V} (hg : ∀ i j r H, Rep G r H (g i j) (gv i j)) : SOp G (rI C gv) (int2 C g) := by
  intro r H st p q x y E Q R hx hy h
  cases p with
  | int i =>
    cases q with
    | int j =>
      simp only [Rep] at hx hy
      obtain ⟨hc, h⟩ := Post.iteM h
      exact ⟨i, j, hx, hy, hc, h r H Step.refl R _ (hg i j r H)⟩
    | _ => exact h.elim
  | _ => exact h.elim
/-- two readings, tried one behind the other -/
def orM (f g : PV → PV → M PV) (c : PV → PV → Bool) : PV → PV → M PV := fun p q => if c p q then f p q else g p q
theorem SOp.or {G : GC} {r1 r2 : R2} {f g : PV → PV → M PV} {c : PV → PV → Bool} (hf : SOp G r1 f) (hg : SOp G r2 g) : SOp G (fun x y H Q => r1 x y H Q ∨ r2 x y H Q) (orM f g c) := by
  intro r H st p q x y E Q R hx hy h
  unfold orM at h
  split at h
  · exact .inl (hf r H st p q x y E Q R hx hy h)
  · exact .inr (hg r H st p q x y E Q R hx hy h)
theorem SOp.i0 {G : GC} {g : Int → Int → V} {f : PV → PV → M PV} (h : SOp G (rI (fun _ _ => True) g) f) : SOp G (rI0 g) f := fun r H st p q x y E Q R hx hy z =>
  let ⟨i, j, a, b, _, d⟩ := h r H st p q x y E Q R hx hy z
  ⟨i, j, a, b, d⟩

/-- + of ints, texts, tuples, lists -/
def addS : PV → PV → M PV
  | .str a, .str b => iteM (a.length + b.length ≤ sizeLine) (okM (.str (a ++ b)))
  | _, _ => nope
def addT : PV → PV → M PV
  | .tup a, .tup b => iteM (a.length + b.length ≤ sizeLine) (okM (.tup (a ++ b)))
  | _, _ => nope
def addL : PV → PV → M PV := fun p q st => match lstOf st p, lstOf st q with
  | some a, some b => iteM (a.length + b.length ≤ sizeLine) (okM (.lst (a ++ b))) st
  | _, _ => .stuck
def isInt2 : PV → PV → Bool
  | .int _, .int _ => true
  | _, _ => false
def isStr2 : PV → PV → Bool
  | .str _, .str _ => true
  | _, _ => false
def isTup2 : PV → PV → Bool
  | .tup _, .tup _ => true
  | _, _ => false
instance : ∀ i j : Int, Decidable ((fun _ _ => True : Int → Int → Prop) i j) := fun _ _ => .isTrue trivial
def addD : PV → PV → M PV := orM (int2 (fun _ _ => True) fun i j => .int (i + j)) (orM addS (orM addT addL isTup2) isStr2) isInt2
theorem Rep.newTup {G : GC} {r : Loc} {H : Hp} {st : Store} {p : Addr} {xs : List PV} {vs : List V} (R : SRel G r H st) (n : H p = none) (l : RepL G r H xs vs) : Rep G r (upd H p (.tup vs)) (.tup xs) (.ref p) := by
  simp only [Rep]; exact ⟨p, vs, rfl, .inl ⟨.inl upd_same, R.freshA n⟩, RepL.step (Step.new1 n) _ _ l⟩
theorem Rep.newLst {G : GC} {r : Loc} {H : Hp} {st : Store} {p : Addr} {xs : List PV} {vs : List V} (R : SRel G r H st) (n : H p = none) (l : RepL G r H xs vs) : Rep G r (upd H p (.lst vs)) (.lst xs) (.ref p) := by
  simp only [Rep]; exact ⟨p, vs, rfl, upd_same, R.freshA n, RepL.step (Step.new1 n) _ _ l⟩
theorem sop_addS {G : GC} : SOp G (fun x y H Q => ∃ i j, x = .str i ∧ y = .str j ∧ i.length + j.length ≤ sizeLine ∧ Q (.str (i ++ j)) H) addS := by
  intro r H st p q x y E Q R hx hy h
  cases p with
  | str i =>
    cases q with
    | str j =>
      simp only [Rep] at hx hy
      obtain ⟨hc, h⟩ := Post.iteM h
      exact ⟨i, j, hx, hy, hc, h r H Step.refl R _ rfl⟩
    | _ => exact h.elim
  | _ => exact h.elim
theorem sop_addT {G : GC} : SOp G (rCatA G.K) addT := by
  intro r H st p q x y E Q R hx hy h
  cases p with
  | tup i =>
    cases q with
    | tup j =>
      obtain ⟨hc, h⟩ := Post.iteM h
      obtain ⟨a, vs, e1, f1, l1⟩ := tupOf_ok hx rfl
      obtain ⟨b, ws, e2, f2, l2⟩ := tupOf_ok hy rfl
      refine ⟨a, b, vs, ws, e1, e2, f1.sq, f2.sq, by rw [← l1.len, ← l2.len]; exact hc, fun z => ?_, fun z1 z2 => ?_, fun z1 z2 p n => ?_⟩
      · subst z; cases i with
        | nil => exact h r H Step.refl R _ (by rw [← e2]; exact hy)
        | cons _ _ => exact absurd l1.len (by simp)
      · subst z2; cases j with
        | nil => exact h r H Step.refl R _ (by rw [← e1, List.append_nil]; exact hx)
        | cons _ _ => exact absurd l2.len (by simp)
      · exact h r _ (Step.new1 n) (R.new1 n) _ (Rep.newTup R n (l1.append l2))
    | _ => exact h.elim
  | _ => exact h.elim
theorem sop_addL {G : GC} : SOp G rCat addL := by
  intro r H st p q x y E Q R hx hy h
  unfold addL at h
  split at h
  · rename_i a b ha hb
    obtain ⟨hc, h⟩ := Post.iteM h
    obtain ⟨l, vs, e1, f1, l1⟩ := lstOf_ok R hx ha
    obtain ⟨m, ws, e2, f2, l2⟩ := lstOf_ok R hy hb
    exact ⟨l, m, vs, ws, e1, e2, f1, f2, by rw [← l1.len, ← l2.len]; exact hc, fun p n => h r _ (Step.new1 n) (R.new1 n) _ (Rep.newLst R n (l1.append l2))⟩
  · exact h.elim
theorem rep_int {G : GC} {r : Loc} {H : Hp} {i : Int} : Rep G r H (.int i) (.int i) := by simp only [Rep]
theorem rep_bl {G : GC} {r : Loc} {H : Hp} {i : Bool} : Rep G r H (.bl i) (.bl i) := by simp only [Rep]
theorem rep_str {G : GC} {r : Loc} {H : Hp} {i : Str} : Rep G r H (.str i) (.str i) := by simp only [Rep]
theorem rep_non {G : GC} {r : Loc} {H : Hp} : Rep G r H .non .non := by simp only [Rep]
def rAddA (K : PySem.W.Frag) : R2 := fun x y H Q => rI0 (fun i j => .int (i + j)) x y H Q ∨ (∃ i j, x = .str i ∧ y = .str j ∧ i.length + j.length ≤ sizeLine ∧ Q (.str (i ++ j)) H) ∨ rCatA K x y H Q ∨ rCat x y H Q
theorem se_add {a b : Expr} {ta tb : TE} {da db : DE} {pos : Pos} (ha : SE X W a ta da) (hb : SE X W b tb db) :
    SE X W (.BinOp a .Add b pos) (tOp (rAddA X.K) ta tb) (d2 addD da db) :=
  se_op (op_add.or (op_add_str.or (op_catA.or op_cat))) (SOp.or (SOp.i0 (sop_int fun _ _ _ _ => rep_int)) (SOp.or sop_addS (SOp.or sop_addT sop_addL))) ha hb
def subD : PV → PV → M PV := int2 (fun _ _ => True) fun i j => .int (i - j)
theorem se_sub {a b : Expr} {ta tb : TE} {da db : DE} {pos : Pos} (ha : SE X W a ta da) (hb : SE X W b tb db) : SE X W (.BinOp a .Sub b pos) (tOp (rI0 fun i j => .int (i - j)) ta tb) (d2 subD da db) :=
  se_op op_sub (SOp.i0 (sop_int fun _ _ _ _ => rep_int)) ha hb
/-- of two factors one is small, or both together have less than a million bits -/
def CMulX (i j : Int) : Prop := CMulW i j ∨ (-(2 ^ 64) < j ∧ j < 2 ^ 64) ∨ (-(2 ^ 64) < i ∧ i < 2 ^ 64)
noncomputable instance (i j : Int) : Decidable (CMulX i j) := Classical.propDecidable _
theorem CMulX.ok {i j : Int} (h : CMulX i j) : IntMulOk i j := by
  rcases h with h | h | h
  · exact h.ok
  · exact .of_right (intBits_le_64 h.1 h.2)
  · exact .of_left (intBits_le_64 h.1 h.2)
theorem op_mulX {X : Cx} : OpR X (binaryOp .Mult) (rI CMulX fun i j => .int (i * j)) := opI fun _ _ _ _ _ _ _ hc q => mul_int q hc.ok
instance (i j : Int) : Decidable (CDivW i j) := by unfold CDivW; infer_instance
instance (i j : Int) : Decidable (CPow i j) := by unfold CPow; infer_instance
instance : ∀ i j : Int, Decidable ((fun _ j => 0 < j : Int → Int → Prop) i j) := fun _ j => (inferInstance : Decidable (0 < j))
noncomputable def mulI : PV → PV → M PV := int2 CMulX fun i j => .int (i * j)
def modD : PV → PV → M PV := int2 (fun _ j => 0 < j) fun i j => .int (i % j)
def divD : PV → PV → M PV := int2 CDivW fun i j => .int (i / j)
theorem se_mod {a b : Expr} {ta tb : TE} {da db : DE} {pos : Pos} (ha : SE X W a ta da) (hb : SE X W b tb db) : SE X W (.BinOp a .Mod b pos) (tOp (rI (fun _ j => 0 < j) fun i j => .int (i % j)) ta tb) (d2 modD da db) :=
  se_op op_mod (sop_int fun _ _ _ _ => rep_int) ha hb
theorem se_div {a b : Expr} {ta tb : TE} {da db : DE} {pos : Pos} (ha : SE X W a ta da) (hb : SE X W b tb db) : SE X W (.BinOp a .FloorDiv b pos) (tOp (rI CDivW fun i j => .int (i / j)) ta tb) (d2 divD da db) :=
  se_op op_fdivW (sop_int fun _ _ _ _ => rep_int) ha hb

end CD

set_option Elab.async false
set_option linter.all false
set_option maxRecDepth 100000
set_option maxHeartbeats 2000000
namespace CD
open PySem PySem.Spec PyProof.Rows L2
variable {X : Cx} {W : WX}

/-! ### data, == and != -/
mutual
def toD (h : Nat → Option PyData) : PV → Option PyData
  | .non => some .none
  | .bl b => some (.bool b)
  | .int i => some (.int i)
  | .str x => some (.str x)
  | .tup xs => (toDL h xs).map .tuple
  | .lst xs => (toDL h xs).map .list
  | .rls xs => (toDL h xs).map .list
  | .loc l => h l
  | _ => none
def toDL (h : Nat → Option PyData) : List PV → Option (List PyData)
  | [] => some []
  | x :: xs => match toD h x, toDL h xs with
    | some d, some ds => some (d :: ds)
    | _, _ => none
end
def noD : Nat → Option PyData := fun _ => none
def cellD (st : Store) (l : Nat) : Option PyData := match st[l]? with
  | some (.lst xs) => (toDL noD xs).map .list
  | _ => none
def dataOf (st : Store) (p : PV) : Option PyData := toD (cellD st) p
mutual
theorem toD_ok {G : GC} {r : Loc} {H : Hp} {h : Nat → Option PyData} (hh : ∀ l d v, h l = some d → Rep G r H (.loc l) v → Dp G.K H v d) : ∀ (p : PV) (v : V) (d : PyData), Rep G r H p v → toD h p = some d → Dp G.K H v d
  | .non, v, d, k, e => by simp only [Rep] at k; simp only [toD] at e; cases e; subst k; exact .non
  | .bl b, v, d, k, e => by simp only [Rep] at k; simp only [toD] at e; cases e; subst k; exact .bl b
  | .int b, v, d, k, e => by simp only [Rep] at k; simp only [toD] at e; cases e; subst k; exact .int b
  | .str b, v, d, k, e => by simp only [Rep] at k; simp only [toD] at e; cases e; subst k; exact .str b
  | .tup xs, v, d, k, e => by
    simp only [Rep] at k; simp only [toD] at e
    obtain ⟨a, vs, rfl, f, l⟩ := k
    cases q : toDL h xs with
    | none => rw [q] at e; cases e
    | some ds => rw [q] at e; cases e; exact .tup f.sq (toDL_ok hh xs vs ds l q)
  | .lst xs, v, d, k, e => by
    simp only [Rep] at k; simp only [toD] at e
    obtain ⟨a, vs, rfl, f, _, l⟩ := k
    cases q : toDL h xs with
    | none => rw [q] at e; cases e
    | some ds => rw [q] at e; cases e; exact .lst (SqL.of f) (toDL_ok hh xs vs ds l q)
  | .rls xs, v, d, k, e => by
    simp only [Rep] at k; simp only [toD] at e
    obtain ⟨a, vs, rfl, f, l⟩ := k
    cases q : toDL h xs with
    | none => rw [q] at e; cases e
    | some ds => rw [q] at e; cases e; exact .lst f.sq (toDL_ok hh xs vs ds l q)
  | .loc l, v, d, k, e => by simp only [toD] at e; exact hh l d v e k
  | .ty _, _, _, _, e => by simp only [toD] at e; cases e
  | .gl _, _, _, _, e => by simp only [toD] at e; cases e
  | .obj _ _ _, _, _, _, e => by simp only [toD] at e; cases e
  | .dct _ _ _, _, _, _, e => by simp only [toD] at e; cases e
theorem toDL_ok {G : GC} {r : Loc} {H : Hp} {h : Nat → Option PyData} (hh : ∀ l d v, h l = some d → Rep G r H (.loc l) v → Dp G.K H v d) : ∀ (p : List PV) (v : List V) (d : List PyData), RepL G r H p v → toDL h p = some d → DpAll G.K H v d
  | [], v, d, k, e => by simp only [RepL] at k; simp only [toDL] at e; cases e; subst k; exact .nil
  | x :: xs, v, d, k, e => by
    simp only [RepL] at k; simp only [toDL] at e
    obtain ⟨y, ys, rfl, a, b⟩ := k
    cases q : toD h x with
    | none => rw [q] at e; cases e
    | some d1 =>
      cases q2 : toDL h xs with
      | none => rw [q, q2] at e; cases e
      | some ds => rw [q, q2] at e; cases e; exact .cons (toD_ok hh x y d1 a q) (toDL_ok hh xs ys ds b q2)
end
theorem dataOf_ok {G : GC} {r : Loc} {H : Hp} {st : Store} {p : PV} {v : V} {d : PyData} (R : SRel G r H st) (k : Rep G r H p v) (e : dataOf st p = some d) : Dp G.K H v d := by
  refine toD_ok (fun l d v e k => ?_) p v d k e
  unfold cellD at e
  split at e
  · rename_i xs hl
    obtain ⟨a, rfl, _, vs, q, z⟩ := loc_ok R k hl rfl
    cases h : toDL noD xs with
    | none => rw [h] at e; cases e
    | some ds => rw [h] at e; cases e; exact .lst (SqL.of q) (toDL_ok (fun _ _ _ e _ => by cases e) xs vs ds z h)
  · cases e
def eqDD (neg : Bool) : PV → PV → M PV := fun p q st => match dataOf st p, dataOf st q with
  | some d, some e => iteM (SeqAt.shaped d = true ∧ SeqAt.shaped e = true) (okM (.bl (if neg then !PyData.eqv d e else PyData.eqv d e))) st
  | _, _ => .stuck
theorem sop_eqDD {G : GC} : SOp G (rEqD G.K) (eqDD false) := by
  intro r H st p q x y E Q R hx hy h
  unfold eqDD at h
  split at h
  · rename_i d e hd he
    obtain ⟨⟨h1, h2⟩, h⟩ := Post.iteM h
    exact ⟨d, e, dataOf_ok R hx hd, dataOf_ok R hy he, h1, h2, h r H Step.refl R _ rep_bl⟩
  · exact h.elim
theorem sop_neDD {G : GC} : SOp G (rNeD G.K) (eqDD true) := by
  intro r H st p q x y E Q R hx hy h
  unfold eqDD at h
  split at h
  · rename_i d e hd he
    obtain ⟨⟨h1, h2⟩, h⟩ := Post.iteM h
    exact ⟨d, e, dataOf_ok R hx hd, dataOf_ok R hy he, h1, h2, h r H Step.refl R _ rep_bl⟩
  · exact h.elim
/-- two texts -/
def eqSS (neg : Bool) : PV → PV → M PV
  | .str a, .str b => okM (.bl (if neg then !decide (V.str a = V.str b) else decide (V.str a = V.str b)))
  | _, _ => nope
theorem sop_eqSS {G : GC} : SOp G rEq (eqSS false) := by
  intro r H st p q x y E Q R hx hy h
  cases p with
  | str a =>
    cases q with
    | str b =>
      simp only [Rep] at hx hy
      subst hx; subst hy
      exact ⟨rfl, h r H Step.refl R _ rep_bl⟩
    | _ => exact h.elim
  | _ => exact h.elim
theorem sop_neSS {G : GC} : SOp G rNe (eqSS true) := by
  intro r H st p q x y E Q R hx hy h
  cases p with
  | str a =>
    cases q with
    | str b =>
      simp only [Rep] at hx hy
      subst hx; subst hy
      exact ⟨rfl, h r H Step.refl R _ rep_bl⟩
    | _ => exact h.elim
  | _ => exact h.elim
def eqD (neg : Bool) : PV → PV → M PV := orM (eqSS neg) (eqDD neg) isStr2
def rEqA (K : PySem.W.Frag) : R2 := fun x y H Q => rEq x y H Q ∨ rEqD K x y H Q
def rNeA (K : PySem.W.Frag) : R2 := fun x y H Q => rNe x y H Q ∨ rNeD K x y H Q
theorem op_eqA (hu : X.A.units + 64 < cLine) : OpR X (compareOp .Eq) (rEqA X.K) := op_eq.or (op_eqD hu)
theorem op_neA (hu : X.A.units + 64 < cLine) : OpR X (compareOp .NotEq) (rNeA X.K) := op_ne.or (op_neD hu)
theorem sop_eqD {G : GC} : SOp G (rEqA G.K) (eqD false) := SOp.or sop_eqSS sop_eqDD
theorem sop_neD {G : GC} : SOp G (rNeA G.K) (eqD true) := SOp.or sop_neSS sop_neDD
section
variable {a b c : Expr} {ta tb tc : TE} {da db dc : DE} {pos : Pos}
theorem se_eq {k : Nat} (hr : Room k X.A) (ha : SE X W a ta da) (hb : SE X W b tb db) : SE X W (.Compare a [.Eq] [b] pos) (tOp (rEqA X.K) ta tb) (d2 (eqD false) da db) := se_cmp (op_eqA hr.units) sop_eqD (nomark _) ha hb
theorem se_ne {k : Nat} (hr : Room k X.A) (ha : SE X W a ta da) (hb : SE X W b tb db) : SE X W (.Compare a [.NotEq] [b] pos) (tOp (rNeA X.K) ta tb) (d2 (eqD true) da db) := se_cmp (op_neA hr.units) sop_neD (nomark _) ha hb

/-! ### order -/
def intsOf : List PV → Option (List Int)
  | [] => some []
  | .int i :: r => (intsOf r).map (i :: ·)
  | _ :: _ => none
theorem intsOf_ok {G : GC} {r : Loc} {H : Hp} : ∀ {p : List PV} {v : List V} {ns : List Int}, RepL G r H p v → intsOf p = some ns → v = ns.map V.int
  | [], v, ns, k, e => by simp only [RepL] at k; simp only [intsOf] at e; cases e; exact k
  | x :: xs, v, ns, k, e => by
    simp only [RepL] at k
    obtain ⟨y, ys, rfl, a, b⟩ := k
    cases x with
    | int i =>
      simp only [intsOf] at e
      cases q : intsOf xs with
      | none => rw [q] at e; cases e
      | some ms => rw [q] at e; cases e; simp only [Rep] at a; rw [a, intsOf_ok b q]; rfl
    | _ => simp only [intsOf] at e; cases e
def ltI : Option (List Int) → Option (List Int) → M PV
  | some x, some y => okM (.bl (HT.lexLt x y))
  | _, _ => nope
def ltT : PV → PV → M PV
  | .tup a, .tup b => ltI (intsOf a) (intsOf b)
  | _, _ => nope
theorem sop_ltT {G : GC} : SOp G (rLtT G.K) ltT := by
  intro r H st p q x y E Q R hx hy h
  cases p with
  | tup i =>
    cases q with
    | tup j =>
      simp only [ltT] at h
      cases h1 : intsOf i with
      | none => rw [h1] at h; exact h.elim
      | some ns =>
      cases h2 : intsOf j with
      | none => rw [h1, h2] at h; exact h.elim
      | some ms =>
        rw [h1, h2] at h
        obtain ⟨a, vs, e1, f1, l1⟩ := tupOf_ok hx rfl
        obtain ⟨b, ws, e2, f2, l2⟩ := tupOf_ok hy rfl
        have q1 := intsOf_ok l1 h1
        have q2 := intsOf_ok l2 h2
        subst q1; subst q2
        exact ⟨a, b, ns, ms, e1, e2, f1.sq, f2.sq, h r H Step.refl R _ rep_bl⟩
    | _ => exact h.elim
  | _ => exact h.elim
def tru2 : Int → Int → Prop := fun _ _ => True
instance : ∀ i j : Int, Decidable (tru2 i j) := fun _ _ => .isTrue trivial
def ltD : PV → PV → M PV := orM (int2 (fun _ _ => True) fun i j => .bl (decide (i < j))) ltT isInt2
def leD : PV → PV → M PV := int2 (fun _ _ => True) fun i j => .bl (decide (i ≤ j))
def gtD : PV → PV → M PV := int2 (fun _ _ => True) fun i j => .bl (decide (j < i))
def geD : PV → PV → M PV := int2 (fun _ _ => True) fun i j => .bl (decide (j ≤ i))
def rLtA (K : PySem.W.Frag) : R2 := fun x y H Q => rI0 (fun i j => .bl (decide (i < j))) x y H Q ∨ rLtT K x y H Q
theorem op_ltA {k : Nat} (hr : Room k X.A) : OpR X (compareOp .Lt) (rLtA X.K) := op_lt.or (op_ltT hr.units0)
theorem sop_ltA {G : GC} : SOp G (rLtA G.K) ltD := SOp.or (SOp.i0 (sop_int fun _ _ _ _ => rep_bl)) sop_ltT
theorem sop_le {G : GC} : SOp G (rI0 fun i j => .bl (decide (i ≤ j))) leD := SOp.i0 (sop_int fun _ _ _ _ => rep_bl)
theorem sop_gt {G : GC} : SOp G (rI0 fun i j => .bl (decide (j < i))) gtD := SOp.i0 (sop_int fun _ _ _ _ => rep_bl)
theorem sop_ge {G : GC} : SOp G (rI0 fun i j => .bl (decide (j ≤ i))) geD := SOp.i0 (sop_int fun _ _ _ _ => rep_bl)
theorem se_lt {k : Nat} (hr : Room k X.A) (ha : SE X W a ta da) (hb : SE X W b tb db) : SE X W (.Compare a [.Lt] [b] pos) (tOp (rLtA X.K) ta tb) (d2 ltD da db) := se_cmp (op_ltA hr) sop_ltA (nomark _) ha hb
theorem se_le (ha : SE X W a ta da) (hb : SE X W b tb db) : SE X W (.Compare a [.LtE] [b] pos) (tOp (rI0 fun i j => .bl (decide (i ≤ j))) ta tb) (d2 leD da db) := se_cmp op_le sop_le (nomark _) ha hb
theorem se_gt (ha : SE X W a ta da) (hb : SE X W b tb db) : SE X W (.Compare a [.Gt] [b] pos) (tOp (rI0 fun i j => .bl (decide (j < i))) ta tb) (d2 gtD da db) := se_cmp op_gt sop_gt (nomark _) ha hb
theorem se_ge (ha : SE X W a ta da) (hb : SE X W b tb db) : SE X W (.Compare a [.GtE] [b] pos) (tOp (rI0 fun i j => .bl (decide (j ≤ i))) ta tb) (d2 geD da db) := se_cmp op_ge sop_ge (nomark _) ha hb

/-! ### is None, in -/
def isNP : PV → Option Bool
  | .non => some true
  | .loc _ => none
  | _ => some false
theorem isNP_ok {G : GC} {r : Loc} {H : Hp} {p : PV} {v : V} {b : Bool} (k : Rep G r H p v) (e : isNP p = some b) : decide (v = .non) = b := by
  cases p with
  | loc _ => cases e
  | non => cases e; simp only [Rep] at k; subst k; rfl
  | bl _ => cases e; simp only [Rep] at k; subst k; rfl
  | int _ => cases e; simp only [Rep] at k; subst k; rfl
  | str _ => cases e; simp only [Rep] at k; subst k; rfl
  | ty _ => cases e; simp only [Rep] at k; subst k; rfl
  | gl _ => cases e; simp only [Rep] at k; obtain ⟨a, rfl, _⟩ := k; rfl
  | tup _ => cases e; simp only [Rep] at k; obtain ⟨a, _, rfl, _⟩ := k; rfl
  | lst _ => cases e; simp only [Rep] at k; obtain ⟨a, _, rfl, _⟩ := k; rfl
  | rls _ => cases e; simp only [Rep] at k; obtain ⟨a, _, rfl, _⟩ := k; rfl
  | obj _ _ _ => cases e; simp only [Rep] at k; obtain ⟨a, _, _, _, rfl, _⟩ := k; rfl
  | dct _ _ _ => cases e; simp only [Rep] at k; obtain ⟨a, _, rfl, _⟩ := k; rfl
def isD (neg : Bool) : PV → PV → M PV := fun p q st => match q, isNP p with
  | .non, some b => .ok (.bl (if neg then !b else b)) st
  | _, _ => .stuck
theorem sop_is {G : GC} : SOp G (fun x y H Q => y = .non ∧ Q (.bl (decide (x = .non))) H) (isD false) := by
  intro r H st p q x y E Q R hx hy h
  unfold isD at h
  split at h
  · rename_i b hb
    simp only [Rep] at hy
    rw [isNP_ok hx hb]
    exact ⟨hy, h r H Step.refl R _ rep_bl⟩
  · exact h.elim
theorem sop_isnot {G : GC} : SOp G (fun x y H Q => y = .non ∧ Q (.bl (!decide (x = .non))) H) (isD true) := by
  intro r H st p q x y E Q R hx hy h
  unfold isD at h
  split at h
  · rename_i b hb
    simp only [Rep] at hy
    rw [isNP_ok hx hb]
    exact ⟨hy, h r H Step.refl R _ rep_bl⟩
  · exact h.elim
theorem se_is (ha : SE X W a ta da) (hb : SE X W b tb db) : SE X W (.Compare a [.Is] [b] pos) (tOp (fun x y H Q => y = .non ∧ Q (.bl (decide (x = .non))) H) ta tb) (d2 (isD false) da db) := se_cmp op_isN sop_is (nomark _) ha hb
theorem se_isnot (ha : SE X W a ta da) (hb : SE X W b tb db) : SE X W (.Compare a [.IsNot] [b] pos) (tOp (fun x y H Q => y = .non ∧ Q (.bl (!decide (x = .non))) H) ta tb) (d2 (isD true) da db) := se_cmp op_notN sop_isnot (nomark _) ha hb

/-! ### not, and, or, if as values -/
def notD (d : DE) : DE := fun env st => (d env st).bind fun p st => match p with
  | .bl b => .ok (.bl (!b)) st
  | _ => .stuck
theorem se_not (ha : SE X W a ta da) : SE X W (.UnaryOp .Not a pos) (tNotV ta) (notD da) := by
  refine ⟨pe_not ha.pe, fun r s H env st Q E R h => ?_⟩
  refine ha.so r s H env st _ E R (h.bind.imp fun p st1 r1 H1 t1 R1 h1 x hx => ?_)
  cases p with
  | bl c => simp only [Rep] at hx; exact ⟨c, hx, h1 r1 H1 Step.refl R1 _ rep_bl⟩
  | _ => exact h1.elim
def negD (d : DE) : DE := fun env st => (d env st).bind fun p st => match p with
  | .int b => .ok (.int (-b)) st
  | _ => .stuck
theorem se_neg (ha : SE X W a ta da) : SE X W (.UnaryOp .USub a pos) (tUn (rU fun i => .int (-i)) ta) (negD da) := by
  refine ⟨pe_un un_neg ha.pe, fun r s H env st Q E R h => ?_⟩
  refine ha.so r s H env st _ E R (h.bind.imp fun p st1 r1 H1 t1 R1 h1 x hx => ?_)
  cases p with
  | int c => simp only [Rep] at hx; exact ⟨c, hx, h1 r1 H1 Step.refl R1 _ rep_int⟩
  | _ => exact h1.elim
def andD (d e : DE) : DE := fun env st => (d env st).bind fun p st => match p with
  | .bl true => e env st
  | .bl false => .ok (.bl false) st
  | _ => .stuck
def orD (d e : DE) : DE := fun env st => (d env st).bind fun p st => match p with
  | .bl true => .ok (.bl true) st
  | .bl false => e env st
  | _ => .stuck
theorem se_one {op} (ha : SE X W a ta da) : SE X W (.BoolOp op [a] pos) ta da := ⟨pe_one ha.pe, ha.so⟩
theorem se_and {rest : List Expr} (ha : SE X W a ta da) (hb : SE X W (.BoolOp .And (b :: rest) pos) tb db) : SE X W (.BoolOp .And (a :: b :: rest) pos) (tAndV ta tb) (andD da db) := by
  refine ⟨pe_and ha.pe hb.pe, fun r s H env st Q E R h => ?_⟩
  refine ha.so r s H env st _ E R (h.bind.imp fun p st1 r1 H1 t1 R1 h1 x hx => ?_)
  cases p with
  | bl c =>
    simp only [Rep] at hx
    refine ⟨c, hx, ?_⟩
    cases c with
    | true => exact hb.so r1 s H1 env st1 Q (E.step t1) R1 h1
    | false => exact h1 r1 H1 Step.refl R1 _ rep_bl
  | _ => exact h1.elim
theorem se_or {rest : List Expr} (ha : SE X W a ta da) (hb : SE X W (.BoolOp .Or (b :: rest) pos) tb db) : SE X W (.BoolOp .Or (a :: b :: rest) pos) (tOrV ta tb) (orD da db) := by
  refine ⟨pe_or ha.pe hb.pe, fun r s H env st Q E R h => ?_⟩
  refine ha.so r s H env st _ E R (h.bind.imp fun p st1 r1 H1 t1 R1 h1 x hx => ?_)
  cases p with
  | bl c =>
    simp only [Rep] at hx
    refine ⟨c, hx, ?_⟩
    cases c with
    | false => exact hb.so r1 s H1 env st1 Q (E.step t1) R1 h1
    | true => exact h1 r1 H1 Step.refl R1 _ rep_bl
  | _ => exact h1.elim

/-! ### tests -/
def notB (d : PEnv → M Bool) : PEnv → M Bool := fun env st => (d env st).bind fun b st => .ok (!b) st
def andB (d e : PEnv → M Bool) : PEnv → M Bool := fun env st => (d env st).bind fun b st => if b = true then e env st else .ok false st
def orB (d e : PEnv → M Bool) : PEnv → M Bool := fun env st => (d env st).bind fun b st => if b = true then .ok true st else e env st
variable {tA tB' : TT} {dA dB' : PEnv → M Bool}
theorem sb_val (ha : SE X W a ta da) (he : ∀ whole, isTrue a X.env whole = (do let v ← whole; standAt a.pos; holding [v] (truthy v)) := by intro _; rfl) : SB X W a (tB ta) (dB da) :=
  ⟨pt_val ha.pe he, fun r s H env st Q E R h => ha.so r s H env st _ E R (h.bind.imp fun p st1 r1 H1 t1 R1 h1 x hx => h1.toB R1 hx)⟩
theorem sb_not (ha : SB X W a tA dA) : SB X W (.UnaryOp .Not a pos) (tNot tA) (notB dA) :=
  ⟨pt_not ha.pt, fun r s H env st Q E R h => ha.so r s H env st _ E R (h.bind.imp fun p st1 r1 H1 t1 R1 h1 => h1 r1 H1 Step.refl R1)⟩
theorem sw_and1 (ha : SB X W a tA dA) : SW X W (.BoolOp .And [a] pos) tA dA := ⟨pw_and1 ha.pt, ha.so⟩
theorem sw_or1 (ha : SB X W a tA dA) : SW X W (.BoolOp .Or [a] pos) tA dA := ⟨pw_or1 ha.pt, ha.so⟩
theorem sw_and {rest : List Expr} (ha : SB X W a tA dA) (hb : SW X W (.BoolOp .And (b :: rest) pos) tB' dB') : SW X W (.BoolOp .And (a :: b :: rest) pos) (tAnd tA tB') (andB dA dB') := by
  refine ⟨pw_and ha.pt hb.pw, fun r s H env st Q E R h => ?_⟩
  refine ha.so r s H env st _ E R (h.bind.imp fun p st1 r1 H1 t1 R1 h1 => ?_)
  cases p with
  | true => simp only [okT, ↓reduceIte]; exact hb.so r1 s H1 env st1 Q (E.step t1) R1 (by rw [if_pos rfl] at h1; exact h1)
  | false => rw [if_neg Bool.false_ne_true] at h1; simp only [okT, Bool.false_eq_true, ↓reduceIte]; exact h1 r1 H1 Step.refl R1
theorem sw_or {rest : List Expr} (ha : SB X W a tA dA) (hb : SW X W (.BoolOp .Or (b :: rest) pos) tB' dB') : SW X W (.BoolOp .Or (a :: b :: rest) pos) (tOr tA tB') (orB dA dB') := by
  refine ⟨pw_or ha.pt hb.pw, fun r s H env st Q E R h => ?_⟩
  refine ha.so r s H env st _ E R (h.bind.imp fun p st1 r1 H1 t1 R1 h1 => ?_)
  cases p with
  | false => simp only [okT, Bool.false_eq_true, ↓reduceIte]; exact hb.so r1 s H1 env st1 Q (E.step t1) R1 (by rw [if_neg Bool.false_ne_true] at h1; exact h1)
  | true => rw [if_pos rfl] at h1; simp only [okT, ↓reduceIte]; exact h1 r1 H1 Step.refl R1
theorem sb_w {e : Expr} (h : SW X W e tA dA) : SB X W e tA dA := ⟨h.pw.pt, h.so⟩
def ifD (c : PEnv → M Bool) (d e : DE) : DE := fun env st => (c env st).bind fun b st => if b = true then d env st else e env st
theorem se_if {c : Expr} (hc : SB X W c tA dA) (ha : SE X W a ta da) (hb : SE X W b tb db) : SE X W (.IfExp c a b pos) (tIf tA ta tb) (ifD dA da db) := by
  refine ⟨pe_ifExp hc.pt ha.pe hb.pe, fun r s H env st Q E R h => ?_⟩
  refine hc.so r s H env st _ E R (h.bind.imp fun p st1 r1 H1 t1 R1 h1 => ?_)
  cases p with
  | true => simp only [okT, ↓reduceIte]; exact ha.so r1 s H1 env st1 Q (E.step t1) R1 (by rw [if_pos rfl] at h1; exact h1)
  | false => simp only [okT, Bool.false_eq_true, ↓reduceIte]; exact hb.so r1 s H1 env st1 Q (E.step t1) R1 (by rw [if_neg Bool.false_ne_true] at h1; exact h1)

/-! ### a op b op c -/
def chD (f g : PV → PV → M PV) (d e k : DE) : DE := fun env st => (d env st).bind fun p st => (e env st).bind fun q st => (f p q st).bind fun z st => match z with
  | .bl true => (k env st).bind fun w st => g q w st
  | .bl false => .ok (.bl false) st
  | _ => .stuck
theorem se_chain {op op' : CmpOp} {r r' : R2} {f g : PV → PV → M PV} (ho : OpR X (compareOp op) r) (ho' : OpR X (compareOp op') r') (hf : SOp (gc X) r f) (hg : SOp (gc X) r' g) (ha : SE X W a ta da) (hb : SE X W b tb db) (hc : SE X W c tc dc)
    (hm : lastMarks [op, op'] [b, c] = false := by with_unfolding_all rfl) : SE X W (.Compare a [op, op'] [b, c] pos) (tChain r r' ta tb tc) (chD f g da db dc) := by
  refine ⟨pe_chain ho ho' ha.pe hb.pe hc.pe hm, fun r0 s H env st Q E R h => ?_⟩
  refine ha.so r0 s H env st _ E R (h.bind.imp fun p st1 r1 H1 t1 R1 h1 x hx => ?_)
  refine hb.so r1 s H1 env st1 _ (E.step t1) R1 (h1.bind.imp fun q st2 r2 H2 t2 R2 h2 y hy => ?_)
  refine hf r2 H2 st2 p q x y _ _ R2 (Rep.step t2 p x hx) hy (h2.bind.imp fun z st3 r3 H3 t3 R3 h3 v hv => ?_)
  cases z with
  | bl k =>
    simp only [Rep] at hv
    refine ⟨k, hv, ?_⟩
    cases k with
    | true =>
      refine iteT (hc.so r3 s H3 env st3 _ ((E.step t1).step (t2.trans t3)) R3 (h3.bind.imp fun w st4 r4 H4 t4 R4 h4 u hu => ?_))
      exact hg r4 H4 st4 q w y u _ _ R4 (Rep.step (t3.trans t4) q y hy) hu h4
    | false => exact iteF (h3 r3 H3 Step.refl R3 _ rep_bl)
  | _ => exact h3.elim
theorem sb_chain {op op' : CmpOp} {r r' : R2} {f g : PV → PV → M PV} (ho : OpR X (compareOp op) r) (ho' : OpR X (compareOp op') r') (hf : SOp (gc X) r f) (hg : SOp (gc X) r' g) (ha : SE X W a ta da) (hb : SE X W b tb db) (hc : SE X W c tc dc)
    (hm : lastMarks [op, op'] [b, c] = false := by with_unfolding_all rfl) : SB X W (.Compare a [op, op'] [b, c] pos) (tTest (tChain r r' ta tb tc)) (dB (chD f g da db dc)) :=
  ⟨pt_chain ho ho' ha.pe hb.pe hc.pe hm, fun r0 s H env st Q E R h => (se_chain (pos := pos) ho ho' hf hg ha hb hc hm).so r0 s H env st _ E R (h.bind.imp fun p st1 r1 H1 t1 R1 h1 x hx => h1.toB R1 hx)⟩
end

/-! ### arguments, displays -/
section
variable {e : Expr} {es : List Expr} {te : TE} {t : TA} {de : DE} {ds : PEnv → M (List PV)} {pos : Pos}
def dNil : PEnv → M (List PV) := fun _ st => .ok [] st
def dCons (d : DE) (ds : PEnv → M (List PV)) : PEnv → M (List PV) := fun env st => (d env st).bind fun p st => (ds env st).bind fun ps st => .ok (p :: ps) st
theorem sa_nil : SA X W [] tNil dNil := ⟨pa_nil, fun r s H env st Q E R h => h r H Step.refl R _ RepL.nil⟩
theorem sa_cons (ha : SE X W e te de) (hr : SA X W es t ds) (hs : starEach (e :: es) X.env = (false, eval e X.env) :: starEach es X.env := by rfl) : SA X W (e :: es) (tCons te t) (dCons de ds) := by
  refine ⟨pa_cons ha.pe hr.pa hs, fun r s H env st Q E R h => ?_⟩
  refine ha.so r s H env st _ E R (h.bind.imp fun p st1 r1 H1 t1 R1 h1 x hx => ?_)
  refine hr.so r1 s H1 env st1 _ (E.step t1) R1 (h1.bind.imp fun q st2 r2 H2 t2 R2 h2 y hy => ?_)
  exact h2 r2 H2 Step.refl R2 _ (RepL.cons (Rep.step t2 p x hx) hy)
def tupD (ds : PEnv → M (List PV)) : DE := fun env st => (ds env st).bind fun ps => iteM (ps.length ≤ sizeLine) (okM (.tup ps))
def lstD (ds : PEnv → M (List PV)) : DE := fun env st => (ds env st).bind fun ps => iteM (ps.length ≤ sizeLine) (okM (.lst ps))
/-- a new place of the store -/
def allocL (ps : List PV) : M PV := fun st => .ok (.loc st.length) (st ++ [.lst ps])
def lstM (ds : PEnv → M (List PV)) : DE := fun env st => (ds env st).bind fun ps => iteM (ps.length ≤ sizeLine) (allocL ps)
theorem se_tup {k} (h : SA X W es t ds) : SE X W (.Tuple es k pos) (tTup t) (tupD ds) := by
  refine ⟨pe_tup h.pa, fun r s H env st Q E R q => ?_⟩
  refine h.so r s H env st _ E R (q.bind.imp fun ps st1 r1 H1 t1 R1 h1 vs hv => ?_)
  obtain ⟨hc, h1⟩ := Post.iteM h1
  exact ⟨by rw [← hv.len]; exact hc, fun p n => h1 r1 _ (Step.new1 n) (R1.new1 n) _ (Rep.newTup R1 n hv)⟩
theorem se_lst (h : SA X W es t ds) : SE X W (.List es pos) (tLst t) (lstD ds) := by
  refine ⟨pe_lst h.pa, fun r s H env st Q E R q => ?_⟩
  refine h.so r s H env st _ E R (q.bind.imp fun ps st1 r1 H1 t1 R1 h1 vs hv => ?_)
  obtain ⟨hc, h1⟩ := Post.iteM h1
  exact ⟨by rw [← hv.len]; exact hc, fun p n => h1 r1 _ (Step.new1 n) (R1.new1 n) _ (Rep.newLst R1 n hv)⟩
/-- what is wanted of a new list that becomes a place of the store -/
theorem alloc_ok {G : GC} {E : Value → Option Addr → Hp → Prop} {r : Loc} {H : Hp} {st : Store} {ps : List PV} {vs : List V} {Q : VK} (R : SRel G r H st) (l : RepL G r H ps vs) (h : Post G E r H (allocL ps st) (okE G Q)) :
    ∀ p, H p = none → Q (.ref p) (upd H p (.lst vs)) := fun p n => by
  have R' := R.alloc (c := .lst ps) (o := .lst vs) n ⟨vs, upd_same, RepL.step (Step.more n) _ _ l⟩
  refine h _ _ (Step.more n) R' _ ?_
  simp only [Rep]
  refine ⟨by rw [← R.len]; simp [Loc.more], fun a e => ?_⟩
  rw [← R.len] at e
  simp [Loc.more] at e; rw [e]
theorem se_lstM (h : SA X W es t ds) : SE X W (.List es pos) (tLst t) (lstM ds) := by
  refine ⟨pe_lst h.pa, fun r s H env st Q E R q => ?_⟩
  refine h.so r s H env st _ E R (q.bind.imp fun ps st1 r1 H1 t1 R1 h1 vs hv => ?_)
  obtain ⟨hc, h1⟩ := Post.iteM h1
  exact ⟨by rw [← hv.len]; exact hc, alloc_ok R1 hv h1⟩
end

/-! ### subscripts, slices -/
def ixD : PV → PV → M PV := fun p q st => match q, seqOf st p with
  | .int i, some xs => match atI xs i with
    | some v => .ok v st
    | none => .stuck
  | _, _ => .stuck
theorem atI_rep {G : GC} {r : Loc} {H : Hp} {ps : List PV} {vs : List V} {i : Int} {p : PV} (l : RepL G r H ps vs) (h : atI ps i = some p) : ∃ v, atI vs i = some v ∧ Rep G r H p v := by
  unfold atI at h ⊢
  rw [← l.len]
  cases q : ixN ps.length i with
  | none => rw [q] at h; cases h
  | some j => rw [q] at h; exact l.get h
def rIx2 (K : PySem.W.Frag) : R2 := fun x y H Q => rIxL K x y H Q ∨ rIxT K x y H Q
theorem sop_ix {G : GC} : SOp G (rIx2 G.K) ixD := by
  intro r H st p q x y E Q R hx hy h
  unfold ixD at h
  split at h
  · rename_i i xs hs
    split at h
    · rename_i v hv
      simp only [Rep] at hy
      obtain ⟨a, vs, e, f, l⟩ := seqOf_ok R hx hs
      obtain ⟨w, hw, k⟩ := atI_rep l hv
      rcases f with f | f
      · exact .inl ⟨a, vs, i, w, e, hy, f, hw, h r H Step.refl R _ k⟩
      · exact .inr ⟨a, vs, i, w, e, hy, f, hw, h r H Step.refl R _ k⟩
    · exact h.elim
  · exact h.elim
theorem se_ix {a b : Expr} {ta tb : TE} {da db : DE} {pos : Pos} (ha : SE X W a ta da) (hb : SE X W b tb db) (hs : PlainIx b := by exact fun _ _ => rfl) : SE X W (.Subscript a b pos) (tOp (rIx2 X.K) ta tb) (d2 ixD da db) :=
  ⟨pe_ix (ix_list.or ix_tup) ha.pe hb.pe hs, so2 ha hb sop_ix⟩

structure SO (X : Cx) (W : WX) (e : Option Expr) (t : St → Hp → (Option Int → Hp → Prop) → Prop) (d : PEnv → M (Option Int)) : Prop where
  po : PO X e t
  so : ∀ r s H env st Q, EnvR (gc X) r H s env → SRel (gc X) r H st → Post (gc X) (fun c d H => W c d s H) r H (d env st) (fun i _ _ H => Q i H) → t s H Q
def noPart : PEnv → M (Option Int) := fun _ st => .ok none st
def partOf (d : DE) : PEnv → M (Option Int) := fun env st => (d env st).bind fun p st => match p with
  | .int i => .ok (some i) st
  | _ => .stuck
theorem so_none : SO X W none tNoPart noPart := ⟨po_none, fun r s H env st Q E R h => h r H Step.refl R⟩
theorem so_some {e : Expr} {te : TE} {de : DE} (h : SE X W e te de) : SO X W (some e) (tPart te) (partOf de) :=
  ⟨po_some h.pe, fun r s H env st Q E R q => h.so r s H env st _ E R (q.bind.imp fun p st1 r1 H1 t1 R1 h1 x hx => by
    cases p with
    | int i => simp only [Rep] at hx; exact ⟨i, hx, h1 r1 H1 Step.refl R1⟩
    | _ => exact h1.elim)⟩
def cutP {α : Type} (xs : List α) (lo hi : Option Int) : List α := (xs.drop (HT.sIx xs.length 0 lo)).take (HT.sIx xs.length xs.length hi - HT.sIx xs.length 0 lo)
def slD (k : List PV → M PV) (d : DE) (lo hi : PEnv → M (Option Int)) : DE := fun env st => (d env st).bind fun p st => (lo env st).bind fun i st => (hi env st).bind fun j st => match tupOf p, sqlOf st p with
  | some xs, _ => .ok (.tup (cutP xs i j)) st
  | none, some xs => k (cutP xs i j) st
  | none, none => .stuck
def rSl2 (K : PySem.W.Frag) : V → Option Int → Option Int → Hp → VK → Prop := fun x lo hi H Q => rSlA K x lo hi H Q ∨ rSlL K x lo hi H Q
theorem cut_rep {G : GC} {r : Loc} {H : Hp} {ps : List PV} {vs : List V} (l : RepL G r H ps vs) (i j : Option Int) : RepL G r H (cutP ps i j) (cutV vs i j) := by
  unfold cutP cutV
  rw [l.len]
  exact (l.drop _).take _
theorem cut_whole {ps : List PV} {i j : Option Int} (h : HT.sIx ps.length 0 i = 0 ∧ HT.sIx ps.length ps.length j = ps.length) : cutP ps i j = ps := by
  unfold cutP
  rw [h.1, h.2]; simp
theorem se_slG {a : Expr} {lo hi : Option Expr} {ta : TE} {tl th} {da : DE} {dl dh : PEnv → M (Option Int)} {p2 pos : Pos} {k : List PV → M PV}
    (hk : ∀ r H st ps vs (E : Value → Option Addr → Hp → Prop) Q, SRel (gc X) r H st → RepL (gc X) r H ps vs → Post (gc X) E r H (k ps st) (okE (gc X) Q) → ∀ p, H p = none → Q (.ref p) (upd H p (.lst vs)))
    (ha : SE X W a ta da) (hl : SO X W lo tl dl) (hh : SO X W hi th dh) : SE X W (.Subscript a (.Slice lo hi none p2) pos) (tSl (rSl2 X.K) ta tl th) (slD k da dl dh) := by
  refine ⟨pe_slice (sl_tupA.or sl_list) ha.pe hl.po hh.po, fun r s H env st Q E R h => ?_⟩
  refine ha.so r s H env st _ E R (h.bind.imp fun p st1 r1 H1 t1 R1 h1 x hx => ?_)
  refine hl.so r1 s H1 env st1 _ (E.step t1) R1 (h1.bind.imp fun i st2 r2 H2 t2 R2 h2 => ?_)
  refine hh.so r2 s H2 env st2 _ ((E.step t1).step t2) R2 (h2.bind.imp fun j st3 r3 H3 t3 R3 h3 => ?_)
  have hx3 := Rep.step (t2.trans t3) p x hx
  split at h3
  · rename_i xs hs
    obtain ⟨b, vs, e, f, l⟩ := tupOf_ok hx3 hs
    have ps : p = .tup xs := by cases p with
      | tup ys => cases hs; rfl
      | _ => cases hs
    refine .inl ⟨b, vs, e, f.sq, fun z => ?_, fun z p n => ?_⟩
    · refine h3 r3 H3 Step.refl R3 _ ?_
      rw [← l.len] at z
      rw [cut_whole z, ← e, ← ps]; exact hx3
    · exact h3 r3 _ (Step.new1 n) (R3.new1 n) _ (Rep.newTup R3 n (cut_rep l i j))
  · rename_i xs hs hq
    obtain ⟨b, vs, e, f, l⟩ := sqlOf_ok R3 hx3 hq
    exact .inr ⟨b, vs, e, f, hk _ _ _ _ _ _ _ R3 (cut_rep l i j) h3⟩
  · exact h3.elim
theorem lst_ok {G : GC} {E : Value → Option Addr → Hp → Prop} {r : Loc} {H : Hp} {st : Store} {ps : List PV} {vs : List V} {Q : VK} (R : SRel G r H st) (l : RepL G r H ps vs) (h : Post G E r H (okM (.lst ps) st) (okE G Q)) :
    ∀ p, H p = none → Q (.ref p) (upd H p (.lst vs)) := fun p n => h r _ (Step.new1 n) (R.new1 n) _ (Rep.newLst R n l)
def okL (ps : List PV) : M PV := okM (.lst ps)
theorem se_sl {a : Expr} {lo hi : Option Expr} {ta : TE} {tl th} {da : DE} {dl dh : PEnv → M (Option Int)} {p2 pos : Pos} (ha : SE X W a ta da) (hl : SO X W lo tl dl) (hh : SO X W hi th dh) :
    SE X W (.Subscript a (.Slice lo hi none p2) pos) (tSl (rSl2 X.K) ta tl th) (slD okL da dl dh) := se_slG (fun _ _ _ _ _ _ _ R l h => lst_ok R l h) ha hl hh
theorem se_slM {a : Expr} {lo hi : Option Expr} {ta : TE} {tl th} {da : DE} {dl dh : PEnv → M (Option Int)} {p2 pos : Pos} (ha : SE X W a ta da) (hl : SO X W lo tl dl) (hh : SO X W hi th dh) :
    SE X W (.Subscript a (.Slice lo hi none p2) pos) (tSl (rSl2 X.K) ta tl th) (slD allocL da dl dh) := se_slG (fun _ _ _ _ _ _ _ R l h => alloc_ok R l h) ha hl hh

/-! ### calls of built-ins by values -/
def SCall (G : GC) (r2 : List V → Hp → VK → Prop) (f : List PV → M PV) : Prop :=
  ∀ (r : Loc) (H : Hp) (st : Store) (ps : List PV) (xs : List V) (E : Value → Option Addr → Hp → Prop) (Q : VK), SRel G r H st → RepL G r H ps xs → Post G E r H (f ps st) (okE G Q) → r2 xs H Q
def callD (f : List PV → M PV) (ds : PEnv → M (List PV)) : DE := fun env st => (ds env st).bind fun ps st => f ps st
section
variable {x : Str} {p pos : Pos} {e : Expr} {es : List Expr} {t : TA} {ds : PEnv → M (List PV)} {id T : String} {r2 : List V → Hp → VK → Prop} {f : List PV → M PV}
theorem se_callB (hc : CallR X (.builtin id) r2) (hf : SCall (gc X) r2 f) (hg : Gl X x) (hm : X.mg x = none) (hv : bootBuiltins x = some (.builtin id)) (ha : SA X W (e :: es) t ds) (hn : x ≠ "__name__" := by decide) (hdb : (x == ("__debug__" : Str)) = false := by decide)
    (he : starEach (e :: es) X.env = (false, eval e X.env) :: starEach es X.env := by rfl) (hpl : (backTo pos (starEach es X.env)).any (·.1) = false := by rfl) : SE X W (.Call (.Name x p) (e :: es) [] pos) (tCB r2 t) (callD f ds) :=
  ⟨pe_callB hc hg hm hv ha.pa hn hdb he hpl, fun r s H env st Q E R h => ha.so r s H env st _ E R (h.bind.imp fun p st1 r1 H1 t1 R1 h1 x hx => hf r1 H1 st1 p x _ _ R1 hx h1)⟩
theorem se_callTy (hc : CallR X (.type T) r2) (hf : SCall (gc X) r2 f) (hg : Gl X x) (hm : X.mg x = none) (hv : bootBuiltins x = some (.type T)) (ha : SA X W (e :: es) t ds) (hn : x ≠ "__name__" := by decide) (hdb : (x == ("__debug__" : Str)) = false := by decide)
    (he : starEach (e :: es) X.env = (false, eval e X.env) :: starEach es X.env := by rfl) (hpl : (backTo pos (starEach es X.env)).any (·.1) = false := by rfl) : SE X W (.Call (.Name x p) (e :: es) [] pos) (tCB r2 t) (callD f ds) :=
  ⟨pe_callTy hc hg hm hv ha.pa hn hdb he hpl, fun r s H env st Q E R h => ha.so r s H env st _ E R (h.bind.imp fun p st1 r1 H1 t1 R1 h1 x hx => hf r1 H1 st1 p x _ _ R1 hx h1)⟩
end
theorem rep1 {G : GC} {r : Loc} {H : Hp} {p : PV} {xs : List V} (h : RepL G r H [p] xs) : ∃ v, xs = [v] ∧ Rep G r H p v := by
  simp only [RepL] at h
  obtain ⟨v, ws, rfl, a, rfl⟩ := h
  exact ⟨v, rfl, a⟩
theorem rep2 {G : GC} {r : Loc} {H : Hp} {p q : PV} {xs : List V} (h : RepL G r H [p, q] xs) : ∃ v w, xs = [v, w] ∧ Rep G r H p v ∧ Rep G r H q w := by
  simp only [RepL] at h
  obtain ⟨v, ws, rfl, a, w, ws', rfl, b, rfl⟩ := h
  exact ⟨v, w, rfl, a, b⟩
def lenF : List PV → M PV
  | [.str z] => iteM (z.length ≤ sizeLine) (okM (.int z.length))
  | [p] => fun st => match seqOf st p with
    | some xs => .ok (.int xs.length) st
    | none => .stuck
  | _ => nope
theorem scall_len {G : GC} : SCall G (fun xs H Q => ∃ x n, xs = [x] ∧ LenV G.K x H n ∧ Q (.int n) H) lenF := by
  intro r H st ps xs E Q R hx h
  unfold lenF at h
  split at h
  · rename_i z
    obtain ⟨v, rfl, k⟩ := rep1 hx
    simp only [Rep] at k
    subst k
    obtain ⟨hc, h⟩ := Post.iteM h
    exact ⟨_, z.length, rfl, ⟨hc, rfl⟩, h r H Step.refl R _ rep_int⟩
  · rename_i p _
    obtain ⟨v, rfl, k⟩ := rep1 hx
    dsimp only at h
    split at h
    · rename_i ys hs
      obtain ⟨a, vs, e, f, l⟩ := seqOf_ok R k hs
      subst e
      refine ⟨_, vs.length, rfl, ?_, by have := h r H Step.refl R _ rep_int; rw [l.len] at this; exact this⟩
      rcases f with f | f
      · exact .inl ⟨vs, f, rfl⟩
      · exact .inr ⟨vs, f, rfl⟩
    · exact h.elim
  · exact h.elim
def intF : List PV → M PV
  | [.int i] => okM (.int i)
  | [.bl b] => okM (.int (if b then 1 else 0))
  | _ => nope
theorem scall_int {G : GC} : SCall G (fun xs H Q => (∃ i, xs = [.int i] ∧ Q (.int i) H) ∨ ∃ k, xs = [.bl k] ∧ Q (.int (if k then 1 else 0)) H) intF := by
  intro r H st ps xs E Q R hx h
  unfold intF at h
  split at h
  · obtain ⟨v, rfl, k⟩ := rep1 hx
    simp only [Rep] at k
    subst k
    exact .inl ⟨_, rfl, h r H Step.refl R _ rep_int⟩
  · obtain ⟨v, rfl, k⟩ := rep1 hx
    simp only [Rep] at k
    subst k
    exact .inr ⟨_, rfl, h r H Step.refl R _ rep_int⟩
  · exact h.elim
def maxF : List PV → M PV
  | [.int i, .int j] => okM (.int (if j > i then j else i))
  | _ => nope
def minF : List PV → M PV
  | [.int i, .int j] => okM (.int (if j < i then j else i))
  | _ => nope
def absF : List PV → M PV
  | [.int i] => okM (.int (if i < 0 then -i else i))
  | _ => nope
theorem scall_max {G : GC} : SCall G (fun xs H Q => ∃ i j, xs = [.int i, .int j] ∧ Q (.int (if j > i then j else i)) H) maxF := by
  intro r H st ps xs E Q R hx h
  unfold maxF at h
  split at h
  · obtain ⟨v, w, rfl, k, l⟩ := rep2 hx
    simp only [Rep] at k l
    subst k; subst l
    exact ⟨_, _, rfl, h r H Step.refl R _ rep_int⟩
  · exact h.elim
theorem scall_min {G : GC} : SCall G (fun xs H Q => ∃ i j, xs = [.int i, .int j] ∧ Q (.int (if j < i then j else i)) H) minF := by
  intro r H st ps xs E Q R hx h
  unfold minF at h
  split at h
  · obtain ⟨v, w, rfl, k, l⟩ := rep2 hx
    simp only [Rep] at k l
    subst k; subst l
    exact ⟨_, _, rfl, h r H Step.refl R _ rep_int⟩
  · exact h.elim
theorem scall_abs {G : GC} : SCall G (fun xs H Q => ∃ i, xs = [.int i] ∧ Q (.int (if i < 0 then -i else i)) H) absF := by
  intro r H st ps xs E Q R hx h
  unfold absF at h
  split at h
  · obtain ⟨v, rfl, k⟩ := rep1 hx
    simp only [Rep] at k
    subst k
    exact ⟨_, rfl, h r H Step.refl R _ rep_int⟩
  · exact h.elim
def tupF : List PV → M PV
  | [p] => fun st => match tupOf p, sqlOf st p with
    | some xs, _ => .ok (.tup xs) st
    | none, some xs => .ok (.tup xs) st
    | none, none => .stuck
  | _ => nope
theorem scall_tup {G : GC} : SCall G (fun xs H Q => ∃ p ys, xs = [.ref p] ∧ ((SqL G.K H p ys ∧ ∀ l, H l = none → Q (.ref l) (upd H l (.tup ys))) ∨ (SqT G.K H p ys ∧ Q (.ref p) H))) tupF := by
  intro r H st ps xs E Q R hx h
  unfold tupF at h
  split at h
  · rename_i p
    obtain ⟨v, rfl, k⟩ := rep1 hx
    split at h
    · rename_i ys hs
      obtain ⟨a, vs, e, f, l⟩ := tupOf_ok k hs
      have ps : p = .tup ys := by cases p with
        | tup zs => cases hs; rfl
        | _ => cases hs
      subst e
      exact ⟨a, vs, rfl, .inr ⟨f.sq, h r H Step.refl R _ (by rw [← ps]; exact k)⟩⟩
    · rename_i ys _ hs
      obtain ⟨a, vs, e, f, l⟩ := sqlOf_ok R k hs
      subst e
      exact ⟨a, vs, rfl, .inl ⟨f, fun p n => h r _ (Step.new1 n) (R.new1 n) _ (Rep.newTup R n l)⟩⟩
    · exact h.elim
  · exact h.elim
def listF (k : List PV → M PV) : List PV → M PV
  | [p] => fun st => match seqOf st p with
    | some xs => k xs st
    | none => .stuck
  | _ => nope
theorem scall_list {G : GC} {k : List PV → M PV} (hk : ∀ r H st ps vs (E : Value → Option Addr → Hp → Prop) Q, SRel G r H st → RepL G r H ps vs → Post G E r H (k ps st) (okE G Q) → ∀ p, H p = none → Q (.ref p) (upd H p (.lst vs))) :
    SCall G (fun xs H Q => ∃ p ys, xs = [.ref p] ∧ (SqL G.K H p ys ∨ SqT G.K H p ys) ∧ ∀ l, H l = none → Q (.ref l) (upd H l (.lst ys))) (listF k) := by
  intro r H st ps xs E Q R hx h
  unfold listF at h
  split at h
  · rename_i p
    obtain ⟨v, rfl, q⟩ := rep1 hx
    split at h
    · rename_i ys hs
      obtain ⟨a, vs, e, f, l⟩ := seqOf_ok R q hs
      subst e
      exact ⟨a, vs, rfl, f, hk _ _ _ _ _ _ _ R l h⟩
    · exact h.elim
  · exact h.elim
def sumF : List PV → M PV
  | [p] => fun st => match sqlOf st p with
    | some xs => match intsOf xs with
      | some ns => .ok (.int ns.sum) st
      | none => .stuck
    | none => .stuck
  | _ => nope
theorem scall_sum {G : GC} : SCall G (rSum G.K) sumF := by
  intro r H st ps xs E Q R hx h
  unfold sumF at h
  split at h
  · obtain ⟨v, rfl, q⟩ := rep1 hx
    split at h
    · rename_i ys hs
      split at h
      · rename_i ns hn
        obtain ⟨a, vs, e, f, l⟩ := sqlOf_ok R q hs
        subst e
        have := intsOf_ok l hn
        subst this
        exact ⟨a, ns, rfl, f, h r H Step.refl R _ rep_int⟩
      · exact h.elim
    · exact h.elim
  · exact h.elim
def boolsOf : List PV → Option (List Bool)
  | [] => some []
  | .bl i :: r => (boolsOf r).map (i :: ·)
  | _ :: _ => none
theorem boolsOf_ok {G : GC} {r : Loc} {H : Hp} : ∀ {p : List PV} {v : List V} {ns : List Bool}, RepL G r H p v → boolsOf p = some ns → v = ns.map V.bl
  | [], v, ns, k, e => by simp only [RepL] at k; simp only [boolsOf] at e; cases e; exact k
  | x :: xs, v, ns, k, e => by
    simp only [RepL] at k
    obtain ⟨y, ys, rfl, a, b⟩ := k
    cases x with
    | bl i =>
      simp only [boolsOf] at e
      cases q : boolsOf xs with
      | none => rw [q] at e; cases e
      | some ms => rw [q] at e; cases e; simp only [Rep] at a; rw [a, boolsOf_ok b q]; rfl
    | _ => simp only [boolsOf] at e; cases e
def boolsF (g : List Bool → Bool) : List PV → M PV
  | [p] => fun st => match sqlOf st p with
    | some xs => match boolsOf xs with
      | some ns => .ok (.bl (g ns)) st
      | none => .stuck
    | none => .stuck
  | _ => nope
theorem scall_all {G : GC} : SCall G (rAll G.K) (boolsF fun bs => bs.all id) := by
  intro r H st ps xs E Q R hx h
  unfold boolsF at h
  split at h
  · obtain ⟨v, rfl, q⟩ := rep1 hx
    dsimp only at h
    split at h
    · rename_i ys hs
      split at h
      · rename_i ns hn
        obtain ⟨a, vs, e, f, l⟩ := sqlOf_ok R q hs
        subst e
        have := boolsOf_ok l hn
        subst this
        exact ⟨a, ns, rfl, f, h r H Step.refl R _ rep_bl⟩
      · exact h.elim
    · exact h.elim
  · exact h.elim
theorem scall_any {G : GC} : SCall G (rAny G.K) (boolsF fun bs => bs.any id) := by
  intro r H st ps xs E Q R hx h
  unfold boolsF at h
  split at h
  · obtain ⟨v, rfl, q⟩ := rep1 hx
    dsimp only at h
    split at h
    · rename_i ys hs
      split at h
      · rename_i ns hn
        obtain ⟨a, vs, e, f, l⟩ := sqlOf_ok R q hs
        subst e
        have := boolsOf_ok l hn
        subst this
        exact ⟨a, ns, rfl, f, h r H Step.refl R _ rep_bl⟩
      · exact h.elim
    · exact h.elim
  · exact h.elim

end CD

set_option Elab.async false
set_option linter.all false
set_option maxRecDepth 100000
set_option maxHeartbeats 2000000
namespace CD
open PySem PySem.Spec PyProof.Rows L2 RZ
variable {X : Cx} {W : WX}
abbrev WF : WX := fun _ _ _ _ => False
theorem EnvR.evo {G : GC} {r r1 : Loc} {H H1 : Hp} {s : St} {env : PEnv} (t : Evo r H r1 H1) (e : EnvR G r H s env) : EnvR G r1 H1 s env :=
  ⟨e.1, fun i p h => let ⟨v, h1, h2⟩ := e.2 i p h; ⟨v, h1, Rep.evo t p v h2⟩⟩

/-! ### what is walked -/
structure Walks (G : GC) (J : It) (r : Loc) (H : Hp) (xs : List PV) : Prop where
  ex : ∃ (Gd : Hp → Prop) (Y : Nat → Hp → V → Hp → Prop), Walk J xs.length Gd Y ∧ (∀ r' H', Evo r H r' H' → Gd H') ∧
    ∀ (i : Nat) (r1 : Loc) (H1 : Hp) (st : Store) (v : V) (H2 : Hp) (p : PV), Evo r H r1 H1 → SRel G r1 H1 st → Y i H1 v H2 → xs[i]? = some p → (∀ a o, H1 a = some o → H2 a = some o) ∧ Rep G r1 H2 p v
structure SI (X : Cx) (W : WX) (tg iter : Expr) (wi : TI) (d : PEnv → M (List PV)) : Prop where
  pi : PI X tg iter wi
  so : ∀ r s H env st R, EnvR (gc X) r H s env → SRel (gc X) r H st → Post (gc X) (fun c d H => W c d s H) r H (d env st) (fun xs _ r' H' => ∀ J, Walks (gc X) J r' H' xs → R J H') → wi s H R
def iSeq (K : PySem.W.Frag) (tl : TE) : TI := fun σ H R => tl σ H fun x H1 => ∃ a, x = .ref a ∧ (((∃ xs, SqL K H1 a xs) ∧ R (Itl K a) H1) ∨ ((∃ xs, SqT K H1 a xs) ∧ R (Itt K a) H1))
theorem pi_seq {tg l : Expr} {tl : TE} (hl : PE X l tl) : PI X tg l (iSeq X.K tl) := by
  refine ⟨fun pins s σ H R I h => ?_⟩
  refine thn (hl.run pins s σ H _ I h) fun v s1 ⟨x, H1, I1, r1, q1⟩ => ?_
  obtain ⟨a, e, q⟩ := q1
  subst e
  cases r1
  rcases q with ⟨⟨xs, hq⟩, q⟩ | ⟨⟨xs, hq⟩, q⟩
  · obtain ⟨its, rv, p, hz⟩ := I1.list hq
    refine wpAny_pyIter_list p.isList ?_
    refine ⟨s1.heap.objs.size, [s1.heap.objs.size], _, _, H1, rfl, I1.kept (t' := s1.toks) fun b o e => Heap.get?_push_of_some _ e, turn_list a _, ⟨_, Heap.get?_push_size _ rfl, rfl, rfl⟩, fun b hb => ?_, q⟩
    have e : b = s1.heap.objs.size := by simpa using hb
    subst e
    exact I1.fpOk (Nat.le_refl _) (I1.hok.fresh (Nat.le_refl _))
  · obtain ⟨its, rv, p, hz⟩ := I1.tuple hq
    refine wpAny_pyIter_tuple (show s1.heap.IsTuple a its.toArray from p) ?_
    refine ⟨s1.heap.objs.size, [s1.heap.objs.size], _, _, H1, rfl, I1.kept (t' := s1.toks) fun b o e => Heap.get?_push_of_some _ e, turn_tuple a _, ⟨_, Heap.get?_push_size _ rfl, rfl, rfl⟩, fun b hb => ?_, q⟩
    have e : b = s1.heap.objs.size := by simpa using hb
    subst e
    exact I1.fpOk (Nat.le_refl _) (I1.hok.fresh (Nat.le_refl _))
/-- the items of a list or tuple that does not change -/
def frozen : PV → Option (List PV)
  | .tup xs => some xs
  | .lst xs => some xs
  | .rls xs => some xs
  | _ => none
def itemsD (d : DE) : PEnv → M (List PV) := fun env st => (d env st).bind fun p st => match frozen p with
  | some xs => .ok xs st
  | none => .stuck
theorem walks_list {G : GC} {r : Loc} {H : Hp} {a : Addr} {vs : List V} {xs : List PV} (f : FL G.K r H a vs ∨ (H a = some (.lst vs) ∧ ¬ av r a)) (l : RepL G r H xs vs) : Walks G (Itl G.K a) r H xs := by
  refine ⟨fun H' => SqL G.K H' a vs, YAt vs, by rw [l.len]; exact walk_list, fun r' H' e => ?_, fun i r1 H1 st v H2 p e R y hp => ?_⟩
  · rcases f with f | ⟨f, n⟩
    · exact (f.evo e).sq
    · exact SqL.of (e.keep a _ n f)
  · obtain ⟨rfl, y⟩ := y
    obtain ⟨w, hw, k⟩ := l.get hp
    rw [y] at hw; cases hw
    exact ⟨fun _ _ h => h, Rep.evo e p v k⟩
theorem walks_tup {G : GC} {r : Loc} {H : Hp} {a : Addr} {vs : List V} {xs : List PV} (f : FT G.K r H a vs) (l : RepL G r H xs vs) : Walks G (Itt G.K a) r H xs := by
  refine ⟨fun H' => SqT G.K H' a vs, YAt vs, by rw [l.len]; exact walk_tup, fun r' H' e => (f.evo e).sq, fun i r1 H1 st v H2 p e R y hp => ?_⟩
  obtain ⟨rfl, y⟩ := y
  obtain ⟨w, hw, k⟩ := l.get hp
  rw [y] at hw; cases hw
  exact ⟨fun _ _ h => h, Rep.evo e p v k⟩
theorem si_seq {tg l : Expr} {tl : TE} {d : DE} (h : SE X W l tl d) : SI X W tg l (iSeq X.K tl) (itemsD d) := by
  refine ⟨pi_seq h.pe, fun r s H env st R E Rl q => ?_⟩
  refine h.so r s H env st _ E Rl (q.bind.imp fun p st1 r1 H1 t1 R1 h1 v hv => ?_)
  cases p with
  | tup xs =>
    obtain ⟨a, vs, e, f, l⟩ := tupOf_ok hv rfl
    exact ⟨a, e, .inr ⟨⟨vs, f.sq⟩, h1 r1 H1 Step.refl R1 _ (walks_tup f l)⟩⟩
  | lst xs =>
    simp only [Rep] at hv
    obtain ⟨a, vs, e, f, n, l⟩ := hv
    exact ⟨a, e, .inl ⟨⟨vs, SqL.of f⟩, h1 r1 H1 Step.refl R1 _ (walks_list (.inr ⟨f, n⟩) l)⟩⟩
  | rls xs =>
    simp only [Rep] at hv
    obtain ⟨a, vs, e, f, l⟩ := hv
    exact ⟨a, e, .inl ⟨⟨vs, f.sq⟩, h1 r1 H1 Step.refl R1 _ (walks_list (.inl f) l)⟩⟩
  | _ => exact h1.elim
def intL (lo : Int) (n : Nat) : List PV := (List.range n).map fun k => .int (lo + (k : Nat))
theorem intL_get {lo : Int} {n i : Nat} {p : PV} (h : (intL lo n)[i]? = some p) : p = .int (lo + (i : Nat)) := by
  unfold intL at h
  rw [List.getElem?_map] at h
  cases q : (List.range n)[i]? with
  | none => rw [q] at h; cases h
  | some k =>
    rw [q] at h
    have := List.getElem?_range (lt_of_get q |> fun z => by simpa using z)
    rw [this] at q; cases q; cases h; rfl
theorem walks_range {G : GC} {r : Loc} {H : Hp} {lo : Int} {n : Nat} : Walks G (Itr lo n) r H (intL lo n) := by
  refine ⟨fun _ => True, YFn fun i => .int (lo + i), by
    have : (intL lo n).length = n := by simp [intL]
    rw [this]; exact walk_range, fun _ _ _ => trivial, fun i r1 H1 st v H2 p e R y hp => ?_⟩
  obtain ⟨rfl, rfl⟩ := y
  rw [intL_get hp]
  exact ⟨fun _ _ h => h, rep_int⟩
def rng1 (ds : PEnv → M (List PV)) : PEnv → M (List PV) := fun env st => (ds env st).bind fun ps st => match ps with
  | [.int j] => iteM (-(2 ^ 62) ≤ j ∧ j < 2 ^ 62) (fun st => .ok (intL 0 j.toNat) st) st
  | _ => .stuck
def rng2 (ds : PEnv → M (List PV)) : PEnv → M (List PV) := fun env st => (ds env st).bind fun ps st => match ps with
  | [.int i, .int j] => iteM (-(2 ^ 62) ≤ i ∧ i < 2 ^ 62 ∧ -(2 ^ 62) ≤ j ∧ j < 2 ^ 62) (fun st => .ok (intL i (j - i).toNat) st) st
  | _ => .stuck
theorem si_range1 {tg a : Expr} {ta : TA} {ds : PEnv → M (List PV)} {p pos : Pos} (hg : Gl X "range") (hm : X.mg "range" = none) (ha : SA X W [a] ta ds) (hs : starEach [a] X.env = [(false, eval a X.env)] := by rfl) : SI X W tg (.Call (.Name "range" p) [a] [] pos) (iRng1 ta) (rng1 ds) := by
  refine ⟨pi_range1 hg hm ha.pa hs, fun r s H env st R E Rl q => ?_⟩
  refine ha.so r s H env st _ E Rl (q.bind.imp fun ps st1 r1 H1 t1 R1 h1 vs hv => ?_)
  split at h1
  · rename_i j
    obtain ⟨v, rfl, k⟩ := rep1 hv
    simp only [Rep] at k
    subst k
    obtain ⟨hc, h1⟩ := Post.iteM h1
    exact ⟨j, rfl, hc.1, hc.2, h1 r1 H1 Step.refl R1 _ walks_range⟩
  · exact h1.elim
theorem si_range2 {tg a b : Expr} {ta : TA} {ds : PEnv → M (List PV)} {p pos : Pos} (hg : Gl X "range") (hm : X.mg "range" = none) (ha : SA X W [a, b] ta ds) (hs : starEach [a, b] X.env = [(false, eval a X.env), (false, eval b X.env)] := by rfl) (hs2 : starEach [b] X.env = [(false, eval b X.env)] := by rfl) :
    SI X W tg (.Call (.Name "range" p) [a, b] [] pos) (iRng2 ta) (rng2 ds) := by
  refine ⟨pi_range2 hg hm ha.pa hs hs2, fun r s H env st R E Rl q => ?_⟩
  refine ha.so r s H env st _ E Rl (q.bind.imp fun ps st1 r1 H1 t1 R1 h1 vs hv => ?_)
  split at h1
  · rename_i i j
    obtain ⟨v, w, rfl, k, l⟩ := rep2 hv
    simp only [Rep] at k l
    subst k; subst l
    obtain ⟨hc, h1⟩ := Post.iteM h1
    exact ⟨i, j, rfl, hc, h1 r1 H1 Step.refl R1 _ walks_range⟩
  · exact h1.elim
def pairs (xs ys : List PV) : List PV := List.zipWith (fun x y => .tup [x, y]) xs ys
theorem walks_pairs {G : GC} {r : Loc} {H : Hp} {J : It} {n : Nat} {Gd : Hp → Prop} {f g : Nat → Option V} {xs ys : List PV} (hn : n = min xs.length ys.length) (w : Walk J n Gd (YPair f g)) (hG : ∀ r' H', Evo r H r' H' → Gd H')
    (hf : ∀ (i : Nat) v p, f i = some v → xs[i]? = some p → Rep G r H p v) (hg : ∀ (i : Nat) v p, g i = some v → ys[i]? = some p → Rep G r H p v) : Walks G J r H (pairs xs ys) := by
  refine ⟨Gd, YPair f g, by
    have : (pairs xs ys).length = n := by simp [pairs, hn]
    rw [this]; exact w, hG, fun i r1 H1 st v H2 p e R y hp => ?_⟩
  obtain ⟨T, x, y, rfl, nT, rfl, h1, h2⟩ := y
  unfold pairs at hp
  rw [List.getElem?_zipWith] at hp
  cases q1 : xs[i]? with
  | none => rw [q1] at hp; cases hp
  | some a =>
    cases q2 : ys[i]? with
    | none => rw [q1, q2] at hp; cases hp
    | some b =>
      rw [q1, q2] at hp; cases hp
      exact ⟨fun c o h => by rw [upd_ne (ne_of_none h nT)]; exact h, Rep.newTup R nT (RepL.cons (Rep.evo e _ _ (hf i x a h1 q1)) (RepL.cons (Rep.evo e _ _ (hg i y b h2 q2)) RepL.nil))⟩
def zipD (ds : PEnv → M (List PV)) : PEnv → M (List PV) := fun env st => (ds env st).bind fun ps st => match ps with
  | [.tup xs, .tup ys] => .ok (pairs xs ys) st
  | [.lst xs, .lst ys] => .ok (pairs xs ys) st
  | _ => .stuck
theorem walk_zipT {K : PySem.W.Frag} {a b : Addr} {xs ys : List V} {n : Nat} (hn : n = min xs.length ys.length) : Walk (ItzT K a b) n (fun H => SqT K H a xs ∧ SqT K H b ys) (YPair (fun i => xs[i]?) (fun i => ys[i]?)) := by
  subst hn
  refine ⟨fun i _ hi q => ?_, fun _ q => ⟨xs, ys, q.1, q.2, by omega⟩, fun i H v H' _ q y => ?_⟩
  · have h1 : i < xs.length := by omega
    have h2 : i < ys.length := by omega
    exact ⟨xs, ys, xs[i], ys[i], q.1, q.2, by simp [h1], by simp [h2]⟩
  · obtain ⟨T, x, z, h1, h2, h3, h4, h5⟩ := y
    exact ⟨T, x, z, h1, h2, h3, h4 xs q.1, h5 ys q.2⟩
theorem si_zip {e e2 : Expr} {ta : TA} {ds : PEnv → M (List PV)} {p pos tpos : Pos} {elts : List Expr} {kk : Nat} (hg : Gl X "zip") (hm : X.mg "zip" = none) (ha : SA X W [e, e2] ta ds)
    (hs : starEach [e, e2] X.env = (false, eval e X.env) :: starEach [e2] X.env := by rfl) (hpl : (backTo pos (starEach [e2] X.env)).any (·.1) = false := by rfl) : SI X W (.Tuple elts kk tpos) (.Call (.Name "zip" p) [e, e2] [] pos) (iZipA X.K ta) (zipD ds) := by
  refine ⟨pi_zipA hg hm ha.pa hs hpl, fun r s H env st R E Rl q => ?_⟩
  refine ha.so r s H env st _ E Rl (q.bind.imp fun ps st1 r1 H1 t1 R1 h1 vs hv => ?_)
  split at h1
  · rename_i xs ys
    obtain ⟨v, w, rfl, k, l⟩ := rep2 hv
    obtain ⟨a, us, rfl, f1, l1⟩ := tupOf_ok k rfl
    obtain ⟨b, ws, rfl, f2, l2⟩ := tupOf_ok l rfl
    refine ⟨a, b, us, ws, rfl, .inr ⟨f1.sq, f2.sq, h1 r1 H1 Step.refl R1 _ ?_⟩⟩
    exact walks_pairs (by rw [l1.len, l2.len]) (walk_zipT rfl) (fun r' H' e => ⟨(f1.evo e).sq, (f2.evo e).sq⟩) (fun i v p hi hp => by
      obtain ⟨z, hz, kz⟩ := l1.get hp; rw [hi] at hz; cases hz; exact kz) (fun i v p hi hp => by
      obtain ⟨z, hz, kz⟩ := l2.get hp; rw [hi] at hz; cases hz; exact kz)
  · rename_i xs ys
    obtain ⟨v, w, rfl, k, l⟩ := rep2 hv
    simp only [Rep] at k l
    obtain ⟨a, us, rfl, f1, n1, l1⟩ := k
    obtain ⟨b, ws, rfl, f2, n2, l2⟩ := l
    refine ⟨a, b, us, ws, rfl, .inl ⟨SqL.of f1, SqL.of f2, h1 r1 H1 Step.refl R1 _ ?_⟩⟩
    exact walks_pairs (by rw [l1.len, l2.len]) (walk_zip rfl) (fun r' H' e => ⟨SqL.of (e.keep _ _ n1 f1), SqL.of (e.keep _ _ n2 f2)⟩) (fun i v p hi hp => by
      obtain ⟨z, hz, kz⟩ := l1.get hp; rw [hi] at hz; cases hz; exact kz) (fun i v p hi hp => by
      obtain ⟨z, hz, kz⟩ := l2.get hp; rw [hi] at hz; cases hz; exact kz)
  · exact h1.elim
def enumD (ds : PEnv → M (List PV)) : PEnv → M (List PV) := fun env st => (ds env st).bind fun ps st => match ps with
  | [.lst xs] => .ok (pairs (intL 0 xs.length) xs) st
  | _ => .stuck
theorem si_enum {e : Expr} {ta : TA} {ds : PEnv → M (List PV)} {p pos tpos : Pos} {elts : List Expr} {kk : Nat} (hg : Gl X "enumerate") (hm : X.mg "enumerate" = none) (ha : SA X W [e] ta ds) (hs : starEach [e] X.env = [(false, eval e X.env)] := by rfl) :
    SI X W (.Tuple elts kk tpos) (.Call (.Name "enumerate" p) [e] [] pos) (iEnum X.K ta) (enumD ds) := by
  refine ⟨pi_enum hg hm ha.pa hs, fun r s H env st R E Rl q => ?_⟩
  refine ha.so r s H env st _ E Rl (q.bind.imp fun ps st1 r1 H1 t1 R1 h1 vs hv => ?_)
  split at h1
  · rename_i xs
    obtain ⟨v, rfl, k⟩ := rep1 hv
    simp only [Rep] at k
    obtain ⟨a, us, rfl, f1, n1, l1⟩ := k
    refine ⟨a, us, rfl, SqL.of f1, h1 r1 H1 Step.refl R1 _ ?_⟩
    exact walks_pairs (n := us.length) (by simp [intL, l1.len]) walk_enum (fun r' H' e => SqL.of (e.keep _ _ n1 f1)) (fun i v p hi hp => by
      cases hi; rw [intL_get hp]; simp only [Rep]; simp) (fun i v p hi hp => by
      obtain ⟨z, hz, kz⟩ := l1.get hp; rw [hi] at hz; cases hz; exact kz)
  · exact h1.elim

/-! ### targets -/
structure SG (X : Cx) (tg : Expr) (g : TG) (tv : List Nat) (d : PV → PEnv → M PEnv) : Prop where
  pg : PG X tg g
  so : ∀ r s H env st p v (E : Value → Option Addr → Hp → Prop) (Q : St → Hp → Prop), EnvR (gc X) r H s env → SRel (gc X) r H st → Rep (gc X) r H p v →
    Post (gc X) E r H (d p env st) (fun env' _ r' H' => ∀ s', EnvR (gc X) r' H' s' env' → (∀ vs : List Nat, (∀ i ∈ tv, i ∈ vs) → wipe s' vs = wipe s vs) → Q s' H') → g v s H Q
structure SGs (X : Cx) (ts : List Expr) (g : TGs) (tv : List Nat) (d : List PV → PEnv → M PEnv) : Prop where
  pgs : PGs X ts g
  so : ∀ r s H env st p v (E : Value → Option Addr → Hp → Prop) (Q : St → Hp → Prop), EnvR (gc X) r H s env → SRel (gc X) r H st → RepL (gc X) r H p v →
    Post (gc X) E r H (d p env st) (fun env' _ r' H' => ∀ s', EnvR (gc X) r' H' s' env' → (∀ vs : List Nat, (∀ i ∈ tv, i ∈ vs) → wipe s' vs = wipe s vs) → Q s' H') → g v s H Q
theorem wipe_set : ∀ {vs : List Nat} {s : St} {i : Nat} {x : Option V}, i ∈ vs → wipe (s.set i x) vs = wipe s vs
  | [], _, _, _, h => by cases h
  | v :: vs, s, i, x, h => by
    unfold wipe
    by_cases hi : i ∈ vs
    · rw [wipe_set hi]
    · have : i = v := by rcases List.mem_cons.mp h with h | h; exact h; exact absurd h hi
      subst this
      have key : ∀ {vs : List Nat} {s : St}, i ∉ vs → wipe (s.set i x) vs = (wipe s vs).set i x := by
        intro vs
        induction vs with
        | nil => intro s _; rfl
        | cons w vs ih =>
          intro s hn
          rw [List.mem_cons, not_or] at hn
          unfold wipe
          rw [ih hn.2, List.set_comm _ _ (fun z => hn.1 (by exact z))]
      rw [key hi, List.set_set]
def gN (i : Nat) : PV → PEnv → M PEnv := fun p env st => .ok (env.set i (some p)) st
theorem sg_name {i : Nat} {x : Str} {pos : Pos} (hN : X.N.Nodup) (hi : X.N[i]? = some x := by rfl) (hx : L2.Loc X.env.scope x := by first | exact Or.inl rfl | exact Or.inr rfl) (hf : X.fn x = true ∨ X.env.scope.names.lookup x = some .local := by first | exact .inl rfl | exact .inr rfl) :
    SG X (.Name x pos) (gName i) [i] (gN i) :=
  ⟨pg_name hN hi hx hf, fun r s H env st p v E Q e R k h => h r H Step.refl R _ (e.set k) fun vs hv => wipe_set (hv i List.mem_cons_self)⟩
def gNone : List PV → PEnv → M PEnv
  | [], env => fun st => .ok env st
  | _ :: _, _ => fun _ => .stuck
def gMore (d : PV → PEnv → M PEnv) (ds : List PV → PEnv → M PEnv) : List PV → PEnv → M PEnv
  | p :: ps, env => fun st => (d p env st).bind fun env st => ds ps env st
  | [], _ => fun _ => .stuck
theorem sgs_nil : SGs X [] gNil [] gNone := by
  refine ⟨pgs_nil, fun r s H env st p v E Q e R k h => ?_⟩
  cases p with
  | nil => simp only [RepL] at k; exact ⟨k, h r H Step.refl R _ e fun _ _ => rfl⟩
  | cons _ _ => exact h.elim
theorem sgs_cons {t : Expr} {ts : List Expr} {g : TG} {gs : TGs} {tv tvs : List Nat} {d : PV → PEnv → M PEnv} {ds : List PV → PEnv → M PEnv} (h1 : SG X t g tv d) (h2 : SGs X ts gs tvs ds)
    (hs : (assignEach (t :: ts) X.env).map (·.2) = assign t X.env :: (assignEach ts X.env).map (·.2) := by rfl) : SGs X (t :: ts) (gCons g gs) (tv ++ tvs) (gMore d ds) := by
  refine ⟨pgs_cons h1.pg h2.pgs hs, fun r s H env st p v E Q e R k h => ?_⟩
  cases p with
  | nil => exact h.elim
  | cons x xs =>
    simp only [RepL] at k
    obtain ⟨y, ys, rfl, a, b⟩ := k
    refine ⟨y, ys, rfl, h1.so r s H env st x y E _ e R a (h.bind.imp fun env1 st1 r1 H1 t1 R1 q s1 e1 w1 => ?_)⟩
    refine h2.so r1 s1 H1 env1 st1 xs ys E _ e1 R1 (RepL.step t1 _ _ b) (q.imp fun env2 st2 r2 H2 t2 R2 q2 s2 e2 w2 => ?_)
    exact q2 s2 e2 fun vs hv => (w2 vs fun i hi => hv i (List.mem_append_right _ hi)).trans (w1 vs fun i hi => hv i (List.mem_append_left _ hi))
def gT (n : Nat) (ds : List PV → PEnv → M PEnv) : PV → PEnv → M PEnv := fun p env st => match p with
  | .tup xs => iteM (xs.length = n) (ds xs env) st
  | _ => .stuck
theorem sg_tup {es : List Expr} {k : Nat} {gs : TGs} {tv : List Nat} {ds : List PV → PEnv → M PEnv} {n : Nat} {pos : Pos} (hc : X.calm = true) (h : SGs X es gs tv ds)
    (hn : (assignEach es X.env).length = n := by rfl) (hst : (assignEach es X.env).findIdx? (·.1) = none := by rfl) : SG X (.Tuple es k pos) (gTup X.K n gs) tv (gT n ds) := by
  refine ⟨pg_tup hc h.pgs hn hst, fun r s H env st p v E Q e R k h' => ?_⟩
  cases p with
  | tup xs =>
    obtain ⟨hl, h'⟩ := Post.iteM h'
    obtain ⟨a, vs, rfl, f, l⟩ := tupOf_ok k rfl
    exact ⟨a, vs, rfl, f.sq, l.len.symm.trans hl, h.so r s H env st xs vs E Q e R l h'⟩
  | _ => exact h'.elim

/-! ### statements -/
def PostS (X : Cx) (W : WX) (r : Loc) (H : Hp) (res : Res Flow) (D : Ends) : Prop :=
  match res with
  | .stuck => False
  | .ok (.nx env) st => ∀ r' H' s', Step r H r' H' → SRel (gc X) r' H' st → EnvR (gc X) r' H' s' env → D.nx s' H'
  | .ok (.bk env) st => ∀ r' H' s', Step r H r' H' → SRel (gc X) r' H' st → EnvR (gc X) r' H' s' env → D.bk s' H'
  | .ok (.ct env) st => ∀ r' H' s', Step r H r' H' → SRel (gc X) r' H' st → EnvR (gc X) r' H' s' env → D.ct s' H'
  | .ok (.rt p) st => ∀ r' H' v, Step r H r' H' → SRel (gc X) r' H' st → Rep (gc X) r' H' p v → D.rt v H'
  | .exc e env st => ∀ r' H' s' cls dd, Step r H r' H' → SRel (gc X) r' H' st → EnvR (gc X) r' H' s' env → ExcR (gc X) r' H' e cls dd → W cls dd s' H'
theorem PostS.mono {r r1 : Loc} {H H1 : Hp} {res : Res Flow} {D : Ends} (t : Step r H r1 H1) (h : PostS X W r H res D) : PostS X W r1 H1 res D := by
  cases res with
  | stuck => exact h
  | ok f st => cases f with
    | nx env => exact fun r' H' s' u => h r' H' s' (t.trans u)
    | bk env => exact fun r' H' s' u => h r' H' s' (t.trans u)
    | ct env => exact fun r' H' s' u => h r' H' s' (t.trans u)
    | rt p => exact fun r' H' s' u => h r' H' s' (t.trans u)
  | exc e env st => exact fun r' H' s' cls dd u => h r' H' s' cls dd (t.trans u)
/-- what is raised is raised with these names -/
def tagE {α : Type} (env : PEnv) : Res α → Res α
  | .exc e _ st => .exc e env st
  | r => r
theorem PostS.bind {β : Type} {r : Loc} {H : Hp} {s : St} {env : PEnv} {res : Res β} {k : β → Store → Res Flow} {D : Ends} (E : EnvR (gc X) r H s env) (h : PostS X W r H ((tagE env res).bind k) D) :
    Post (gc X) (fun c d H => W c d s H) r H res (fun b st r' H' => PostS X W r' H' (k b st) D) := by
  cases res with
  | stuck => exact h
  | ok b st => exact fun r' H' t _ => PostS.mono t h
  | exc e v st => exact fun r' H' cls dd t R x => h r' H' s cls dd t R (E.step t) x
structure SS (X : Cx) (W : WX) (st : Stmt) (t : TS) (d : DS) : Prop where
  ps : PS X st t
  so : ∀ r s H env sto D, EnvR (gc X) r H s env → SRel (gc X) r H sto → PostS X W r H (d env sto) D → t D s H
structure SSs (X : Cx) (W : WX) (st : List Stmt) (t : TS) (d : DS) : Prop where
  pss : PSs X st t
  so : ∀ r s H env sto D, EnvR (gc X) r H s env → SRel (gc X) r H sto → PostS X W r H (d env sto) D → t D s H
section
variable {st : Stmt} {rest : List Stmt} {t u : TS} {d d' : DS} {e : Expr} {te : TE} {de : DE} {pos : Pos}
def skipD : DS := fun env st => .ok (.nx env) st
def seqD (d d' : DS) : DS := fun env st => match d env st with
  | .ok (.nx env') st' => d' env' st'
  | r => r
theorem ss_nil : SSs X W [] tNext skipD := ⟨pss_nil, fun r s H env st D E R h => h r H s Step.refl R E⟩
theorem ss_cons (h1 : SS X W st t d) (h2 : SSs X W rest u d') : SSs X W (st :: rest) (tSeq t u) (seqD d d') := by
  refine ⟨pss_cons h1.ps h2.pss, fun r s H env sto D E R h => ?_⟩
  refine h1.so r s H env sto { D with nx := u D } E R ?_
  unfold seqD at h
  split at h
  · rename_i env' st' hd
    rw [hd]
    exact fun r' H' s' t' R' E' => h2.so r' s' H' env' st' D E' R' (PostS.mono t' h)
  · rename_i hx
    cases q : d env sto with
    | stuck => rw [q] at h; exact h
    | ok f st' => cases f with
      | nx env' => exact absurd q (hx env' st')
      | bk env' => rw [q] at h; exact h
      | ct env' => rw [q] at h; exact h
      | rt p => rw [q] at h; exact h
    | exc x v st' => rw [q] at h; exact h
theorem ss_one (h : SS X W st t d) : SSs X W [st] t d := ⟨pss_one h.ps, h.so⟩
theorem ss_pass : SS X W (.Pass pos) tNext skipD := ⟨ps_pass, fun r s H env st D E R h => h r H s Step.refl R E⟩
theorem ss_doc {x j pos pos'} : SS X W (.Expr (.Constant (.str x) j pos) pos') tNext skipD := ⟨ps_doc, fun r s H env st D E R h => h r H s Step.refl R E⟩
def brkD : DS := fun env st => .ok (.bk env) st
def conD : DS := fun env st => .ok (.ct env) st
theorem ss_break : SS X W (.Break pos) tBreak brkD := ⟨ps_break, fun r s H env st D E R h => h r H s Step.refl R E⟩
theorem ss_continue : SS X W (.Continue pos) tCont conD := ⟨ps_continue, fun r s H env st D E R h => h r H s Step.refl R E⟩
def exprD (de : DE) : DS := fun env st => (tagE env (de env st)).bind fun _ st => .ok (.nx env) st
theorem ss_expr (he : SE X W e te de) (hs : swapsWith e none pos.line X.env = pure false := by rfl) : SS X W (.Expr e pos) (tDrop te) (exprD de) :=
  ⟨ps_expr he.pe hs, fun r s H env st D E R h => he.so r s H env st _ E R ((PostS.bind E h).imp fun p st1 r1 H1 t1 R1 h1 x hx => h1 r1 H1 s Step.refl R1 (E.step t1))⟩
def retD (de : DE) : DS := fun env st => (tagE env (de env st)).bind fun p st => .ok (.rt p) st
theorem ss_ret (he : SE X W e te de) : SS X W (.Return (some e) pos) (tRet te) (retD de) :=
  ⟨ps_ret he.pe, fun r s H env st D E R h => he.so r s H env st _ E R ((PostS.bind E h).imp fun p st1 r1 H1 t1 R1 h1 x hx => h1 r1 H1 x Step.refl R1 hx)⟩
def retN : DS := fun _ st => .ok (.rt .non) st
theorem ss_retN : SS X W (.Return none pos) tRetN retN := ⟨ps_retN, fun r s H env st D E R h => h r H .non Step.refl R rep_non⟩
def ifS (c : PEnv → M Bool) (d d' : DS) : DS := fun env st => (tagE env (c env st)).bind fun b st => if b = true then d env st else d' env st
theorem ss_if {c : Expr} {a b : List Stmt} {tc : TT} {dc : PEnv → M Bool} (hc : SB X W c tc dc) (ha : SSs X W a t d) (hb : SSs X W b u d') : SS X W (.If c a b pos) (tIfS tc t u) (ifS dc d d') := by
  refine ⟨ps_if hc.pt ha.pss hb.pss, fun r s H env st D E R h => ?_⟩
  refine hc.so r s H env st _ E R ((PostS.bind E h).imp fun b st1 r1 H1 t1 R1 h1 => ?_)
  cases b with
  | true => simp only [okT, ↓reduceIte] at h1 ⊢; exact ha.so r1 s H1 env st1 D (E.step t1) R1 h1
  | false => simp only [okT, Bool.false_eq_true, ↓reduceIte] at h1 ⊢; exact hb.so r1 s H1 env st1 D (E.step t1) R1 h1
def setD (i : Nat) (de : DE) : DS := fun env st => (tagE env (de env st)).bind fun p st => .ok (.nx (env.set i (some p))) st
theorem ss_set {i : Nat} {x : Str} {pos' : Pos} (hN : X.N.Nodup) (he : SE X W e te de) (hi : X.N[i]? = some x := by rfl) (hx : L2.Loc X.env.scope x := by first | exact Or.inl rfl | exact Or.inr rfl) (hs : swapsWith e (some (.Name x pos')) pos.line X.env = pure false := by rfl)
    (hf : X.fn x = true ∨ X.env.scope.names.lookup x = some .local := by first | exact .inl rfl | exact .inr rfl) : SS X W (.Assign [.Name x pos'] e pos) (tAsg te (gName i)) (setD i de) :=
  ⟨ps_set hN hi hx he.pe hs hf, fun r s H env st D E R h => he.so r s H env st _ E R ((PostS.bind E h).imp fun p st1 r1 H1 t1 R1 h1 x hx => h1 r1 H1 _ Step.refl R1 ((E.step t1).set hx))⟩
def asgD (de : DE) (g : PV → PEnv → M PEnv) : DS := fun env st => (tagE env (de env st)).bind fun p st => (tagE env (g p env st)).bind fun env st => .ok (.nx env) st
theorem ss_asg {tg : Expr} {g : TG} {tv : List Nat} {dg : PV → PEnv → M PEnv} (he : SE X W e te de) (hg : SG X tg g tv dg) (hs : swapsWithSole [tg] e pos.line X.env = pure false := by rfl) (hw : swappedStores [tg] e X.env = pure none := by rfl)
    (h1 : (assignEach [tg] X.env).map (·.2) = [assign tg X.env] := by rfl) : SS X W (.Assign [tg] e pos) (tAsg te g) (asgD de dg) := by
  refine ⟨ps_asg he.pe hg.pg hs hw h1, fun r s H env st D E R h => ?_⟩
  refine he.so r s H env st _ E R ((PostS.bind E h).imp fun p st1 r1 H1 t1 R1 h1 x hx => ?_)
  exact hg.so r1 s H1 env st1 p x _ _ (E.step t1) R1 hx ((PostS.bind (E.step t1) h1).imp fun env2 st2 r2 H2 t2 R2 h2 s2 e2 _ => h2 r2 H2 s2 Step.refl R2 e2)

/-! ### loops -/
def forL (g : PV → PEnv → M PEnv) (b : DS) : List PV → DS
  | [], env, st => .ok (.nx env) st
  | x :: xs, env, st => (tagE env (g x env st)).bind fun env1 st1 => match b env1 st1 with
    | .ok (.nx e2) s2 => forL g b xs e2 s2
    | .ok (.ct e2) s2 => forL g b xs e2 s2
    | .ok (.bk e2) s2 => .ok (.nx e2) s2
    | r => r
def forD (it : PEnv → M (List PV)) (g : PV → PEnv → M PEnv) (b : DS) : DS := fun env st => (tagE env (it env st)).bind fun xs st => forL g b xs env st
theorem ss_for {tg iter : Expr} {body : List Stmt} {wi : TI} {g : TG} {tv : List Nat} {tb : TS} {di : PEnv → M (List PV)} {dg : PV → PEnv → M PEnv} {db : DS} (hp : PassesOwn (model X.prog X.w) X.A X.env X.xe) (hc : X.calm = true)
    (hi : SI X W tg iter wi di) (hg : SG X tg g tv dg) (hb : SSs X W body tb db) (hs : ∀ x, foldedSetIterable iter X.env x = pure x := by intro _; rfl) : SS X W (.For tg iter body [] pos) (tFor wi g tb) (forD di dg db) := by
  refine ⟨ps_for hp hc hi.pi hg.pg hb.pss hs, fun r s H env st D E R h => ?_⟩
  refine hi.so r s H env st _ E R ((PostS.bind E h).imp fun xs st1 r1 H1 t1 R1 h1 J w => ?_)
  obtain ⟨Gd, Y, wk, hG, hY⟩ := w.ex
  refine for_it wk (fun i s' H' => ∃ r' env' st', Evo r1 H1 r' H' ∧ SRel (gc X) r' H' st' ∧ EnvR (gc X) r' H' s' env' ∧ PostS X W r' H' (forL dg db (xs.drop i) env' st') D)
    ⟨r1, env, st1, Evo.refl, R1, E.step t1, h1⟩ (fun i s' H' _ p => let ⟨r', _, _, e, _⟩ := p; hG r' H' e) (fun i x s' H' H2 hi p y => ?_) (fun s' H' p => ?_)
  · obtain ⟨r', env', st', e, R', E', q⟩ := p
    have hx : xs[i]? = some xs[i] := List.getElem?_eq_getElem hi
    obtain ⟨sm, k⟩ := hY i r' H' st' x H2 xs[i] e R' y hx
    rw [List.drop_eq_getElem_cons hi] at q
    unfold forL at q
    have S2 : Step r' H' r' H2 := Step.same sm
    refine hg.so r' s' H2 env' st' xs[i] x _ _ (E'.step S2) (R'.same sm) k ((PostS.bind (E'.step S2) (PostS.mono S2 q)).imp fun env2 st2 r2 H3 t2 R2 q2 s2 e2 _ => ?_)
    have ev : Evo r1 H1 r2 H3 := e.trans (S2.evo.trans t2.evo)
    refine hb.so r2 s2 H3 env2 st2 _ e2 R2 ?_
    cases z : db env2 st2 with
    | stuck => rw [z] at q2; exact q2
    | ok f st3 =>
      rw [z] at q2
      cases f with
      | nx env3 => exact fun r3 H4 s3 t3 R3 E3 => ⟨r3, env3, st3, ev.trans t3.evo, R3, E3, PostS.mono t3 q2⟩
      | ct env3 => exact fun r3 H4 s3 t3 R3 E3 => ⟨r3, env3, st3, ev.trans t3.evo, R3, E3, PostS.mono t3 q2⟩
      | bk env3 => exact q2
      | rt p => exact q2
    | exc x v st3 => rw [z] at q2; exact q2
  · obtain ⟨r', env', st', e, R', E', q⟩ := p
    rw [List.drop_length] at q
    exact q r' H' s' Step.refl R' E'
def whileN (c : PEnv → M Bool) (b : DS) : Nat → DS
  | 0, _, _ => .stuck
  | n + 1, env, st => (tagE env (c env st)).bind fun t st1 => if t = true then match b env st1 with
      | .ok (.nx e2) s2 => whileN c b n e2 s2
      | .ok (.ct e2) s2 => whileN c b n e2 s2
      | .ok (.bk e2) s2 => .ok (.nx e2) s2
      | r => r
    else .ok (.nx env) st1
open Classical in
noncomputable def whileD (c : PEnv → M Bool) (b : DS) : DS := fun env st => if h : ∃ n, whileN c b n env st ≠ .stuck then whileN c b h.choose env st else .stuck
theorem ss_while {c : Expr} {body : List Stmt} {tc : TT} {tb : TS} {dc : PEnv → M Bool} {db : DS} (hp : PassesOwn (model X.prog X.w) X.A X.env X.xe) (hc : SB X W c tc dc) (hb : SSs X W body tb db) : SS X W (.While c body [] pos) (tWhile tc tb) (whileD dc db) := by
  refine ⟨ps_while hp hc.pt hb.pss, fun r s H env st D E R h => ?_⟩
  unfold whileD at h
  split at h
  · rename_i hn
    refine ⟨fun m s' H' => ∃ r' env' st', EnvR (gc X) r' H' s' env' ∧ SRel (gc X) r' H' st' ∧ PostS X W r' H' (whileN dc db m env' st') D, ⟨_, r, env, st, E, R, h⟩, fun m s' H' p => ?_⟩
    obtain ⟨r', env', st', E', R', q⟩ := p
    cases m with
    | zero => exact q.elim
    | succ m =>
      unfold whileN at q
      refine hc.so r' s' H' env' st' _ E' R' ((PostS.bind E' q).imp fun b st1 r1 H1 t1 R1 h1 => ?_)
      cases b with
      | false => simp only [okT, Bool.false_eq_true, ↓reduceIte] at h1 ⊢; exact h1 r1 H1 s' Step.refl R1 (E'.step t1)
      | true =>
        simp only [okT, ↓reduceIte] at h1 ⊢
        refine ⟨fun s2 H2 => ∃ r2 env2 st2, EnvR (gc X) r2 H2 s2 env2 ∧ SRel (gc X) r2 H2 st2 ∧ PostS X W r2 H2 (whileN dc db m env2 st2) D, fun s2 H2 q2 => ⟨m, Nat.lt_succ_self _, q2⟩, ?_⟩
        refine hb.so r1 s' H1 env' st1 _ (E'.step t1) R1 ?_
        cases z : db env' st1 with
        | stuck => rw [z] at h1; exact h1
        | ok f st3 =>
          rw [z] at h1
          cases f with
          | nx env3 => exact fun r3 H4 s3 t3 R3 E3 => ⟨r3, env3, st3, E3, R3, PostS.mono t3 h1⟩
          | ct env3 => exact fun r3 H4 s3 t3 R3 E3 => ⟨r3, env3, st3, E3, R3, PostS.mono t3 h1⟩
          | bk env3 => exact h1
          | rt p => exact h1
        | exc x v st3 => rw [z] at h1; exact h1
  · exact h.elim
end

end CD

set_option Elab.async false
set_option linter.all false
set_option maxRecDepth 100000
set_option maxHeartbeats 2000000
namespace CD
open PySem PySem.Spec PyProof.Rows L2 RZ
variable {X : Cx} {W : WX}

/-! ### comprehensions -/
structure STs (X : Cx) (W : WX) (ifs : List Expr) (t : TT) (d : PEnv → M Bool) : Prop where
  pts : PTs X ifs t
  so : ∀ r s H env st Q, EnvR (gc X) r H s env → SRel (gc X) r H st → Post (gc X) (fun c d H => W c d s H) r H (d env st) (okT Q) → t s H Q
def yesB : PEnv → M Bool := fun _ st => .ok true st
theorem sts_nil : STs X W [] tYes yesB := ⟨pts_nil, fun r s H env st Q E R h => h r H Step.refl R⟩
theorem sts_one {c : Expr} {t : TT} {d : PEnv → M Bool} (h : SB X W c t d) : STs X W [c] t d := ⟨pts_one h.pt, h.so⟩
def wipeE (env : PEnv) : List Nat → PEnv
  | [] => env
  | v :: vs => (wipeE env vs).set v none
theorem EnvR.wipe {G : GC} {r : Loc} {H : Hp} {s : St} {env : PEnv} (e : EnvR G r H s env) : ∀ vs : List Nat, EnvR G r H (L2.wipe s vs) (wipeE env vs)
  | [] => e
  | v :: vs => by
    have ih := EnvR.wipe e vs
    refine ⟨by unfold L2.wipe wipeE; simp [ih.1], fun i p h => ?_⟩
    unfold wipeE at h
    unfold L2.wipe
    by_cases hi : v = i
    · subst hi
      rw [List.getElem?_set] at h
      simp at h
    · rw [List.getElem?_set_ne hi] at h ⊢
      exact ih.2 i p h
/-- nothing is raised -/
def noX {α : Type} : Res α → Res α
  | .exc _ _ _ => .stuck
  | r => r
theorem Post.noX {β : Type} {G : GC} {E E' : Value → Option Addr → Hp → Prop} {r : Loc} {H : Hp} {res : Res β} {C : β → Store → Loc → Hp → Prop} (h : Post G E r H (CD.noX res) C) : Post G E' r H res C := by
  cases res with
  | stuck => exact h
  | ok b st => exact h
  | exc e v st => exact h.elim
def lcL (g : PV → PEnv → M PEnv) (t : PEnv → M Bool) (e : DE) : List PV → List PV → PEnv → M (List PV)
  | [], acc, _, st => .ok acc st
  | x :: xs, acc, env, st => (g x env st).bind fun env1 st1 => (t env1 st1).bind fun b st2 => if b = true then (e env1 st2).bind fun p st3 => if acc.length < sizeLine then lcL g t e xs (acc ++ [p]) env st3 else .stuck
    else lcL g t e xs acc env st2
/-- the list, or what is made of it, handed on -/
def lcD (k : List PV → M PV) (it : PEnv → M (List PV)) (vs : List Nat) (g : PV → PEnv → M PEnv) (t : PEnv → M Bool) (e : DE) : DE := fun env st =>
  (it env st).bind fun xs st => (noX (lcL g t e xs [] (wipeE env vs) st)).bind fun ys st => k ys st

theorem Step.unhide {q q' : Loc} {H H' : Hp} {D : Addr} (s : Step (q.hide D) H (q'.hide D) H') : Step q H q' H' :=
  ⟨s.keep, s.there, s.len, s.old, s.new, by have := s.hid; unfold Loc.hide at this; dsimp only at this; exact List.cons_inj_right _ |>.mp this⟩
theorem Step.isHide {q r' : Loc} {H H' : Hp} {D : Addr} (s : Step (q.hide D) H r' H') : ∃ q' : Loc, r' = q'.hide D := by
  refine ⟨⟨r'.s, q.hid⟩, ?_⟩
  have := s.hid
  cases r'
  unfold Loc.hide at this ⊢
  dsimp only at this ⊢
  rw [this]
theorem Step.out {r q : Loc} {H H' : Hp} {D : Addr} {o : HO} (n : H D = none) (s : Step r H q H') : Step r H q (upd H' D o) :=
  ⟨fun a u z e => by rw [upd_ne (ne_of_none e n)]; exact s.keep a u z e, fun a e => by
    unfold upd; split
    · exact fun y => by cases y
    · exact s.there a e, s.len, s.old, s.new, s.hid⟩
theorem Step.hideE {r q : Loc} {H H' : Hp} {D : Addr} (n : H D = none) (s : Step r H q H') : Evo r H (q.hide D) H' :=
  ⟨s.evo.keep, s.evo.there, s.evo.len, s.evo.old, s.evo.new, fun a m => by
    rcases List.mem_cons.mp m with m | m
    · subst m; exact .inr n
    · exact s.evo.hid a m⟩
theorem wipe_wipe : ∀ (vs : List Nat) (s : St), L2.wipe (L2.wipe s vs) vs = L2.wipe s vs := by
  have key : ∀ (vs us : List Nat) (s : St), (∀ i ∈ us, i ∈ vs) → L2.wipe (L2.wipe s us) vs = L2.wipe s vs := by
    intro vs us
    induction us with
    | nil => intro s _; rfl
    | cons u us ih =>
      intro s h
      show L2.wipe ((L2.wipe s us).set u none) vs = _
      rw [wipe_set (h u List.mem_cons_self)]
      exact ih s fun i hi => h i (List.mem_cons_of_mem _ hi)
  exact fun vs s => key vs vs s fun _ h => h
theorem bind_ok {α β : Type} {m : Res α} {f : α → Store → Res β} {b : β} {st : Store} (h : m.bind f = .ok b st) : ∃ a st1, m = .ok a st1 ∧ f a st1 = .ok b st := by
  cases m with
  | stuck => cases h
  | ok a st1 => exact ⟨a, st1, rfl, h⟩
  | exc _ _ _ => cases h
theorem Post.of_ok {β : Type} {G : GC} {E : Value → Option Addr → Hp → Prop} {r : Loc} {H : Hp} {res : Res β} {b : β} {st : Store} {C : β → Store → Loc → Hp → Prop} (e : res = .ok b st) (h : ∀ r' H', Step r H r' H' → SRel G r' H' st → C b st r' H') : Post G E r H res C := by
  rw [e]; exact h
/-- what is made of the finished list at p -/
def KOk (G : GC) (k : List PV → M PV) : Prop := ∀ (q : Loc) (H : Hp) (st : Store) (ps : List PV) (vs : List V) (p : Addr) (E : Value → Option Addr → Hp → Prop) (Q : VK), SRel G (q.hide p) H st → H p = some (.lst vs) → ¬ live q p → ¬ p ∈ q.hid → RepL G (q.hide p) H ps vs →
      ∀ (r0 : Loc) (H0 : Hp), H0 p = none → Step r0 H0 q H → Post G E r0 H0 (k ps st) (okE G Q) → Q (.ref p) H

theorem lc_so {elt tg iter : Expr} {ifs : List Expr} {scope : Scope} {own : List (Str × Nat)} {wi : TI} {g : TG} {tv : List Nat} {tt : TT} {te : TE} {di : PEnv → M (List PV)} {dg : PV → PEnv → M PEnv} {dt : PEnv → M Bool} {de : DE} {k : List PV → M PV}
    (hk : KOk (gc X) k) (hi : SI X W tg iter wi di)
    (hg : ∀ (s : Shared) (H : Hp) (C : Addr) (cl : List (Str × Addr)) (fp : List Addr), SG (X.blk s H scope (compEnvC scope cl C X.env) fp) tg g tv dg) (ht : ∀ (s : Shared) (H : Hp) (C : Addr) (cl : List (Str × Addr)) (fp : List Addr), STs (X.blk s H scope (compEnvC scope cl C X.env) fp) WF ifs tt dt)
    (he : ∀ (s : Shared) (H : Hp) (C : Addr) (cl : List (Str × Addr)) (fp : List Addr), SE (X.blk s H scope (compEnvC scope cl C X.env) fp) WF elt te de) (hv : ∀ i ∈ tv, i ∈ own.map (·.2)) :
    ∀ r s H env st Q, EnvR (gc X) r H s env → SRel (gc X) r H st → Post (gc X) (fun c d H => W c d s H) r H (lcD k di (own.map (·.2)) dg dt de env st) (okE (gc X) Q) → tLc wi g tt te (own.map (·.2)) s H Q := by
  intro r s H env st Q E R h
  refine hi.so r s H env st _ E R (h.bind.imp fun xs st1 r1 H1 t1 R1 h1 J w D nD => ?_)
  obtain ⟨Gd, Y, wk, hG, hY⟩ := w.ex
  have hg0 := (hg {} H1 0 [] []).so
  have ht0 := (ht {} H1 0 [] []).so
  have he0 := (he {} H1 0 [] []).so
  have DL1 : ¬ live r1 D := R1.fresh nD
  have DH1 : ¬ D ∈ r1.hid := fun z => R1.hd D z nD
  obtain ⟨ys, stF, hres, h1⟩ : ∃ ys stF, lcL dg dt de xs [] (wipeE env (own.map (·.2))) st1 = .ok ys stF ∧ Post (gc X) (fun c d H => W c d s H) r1 H1 (k ys stF) (okE (gc X) Q) := by
    cases q : lcL dg dt de xs [] (wipeE env (own.map (·.2))) st1 with
    | stuck => rw [q] at h1; exact h1.elim
    | ok ys stF => rw [q] at h1; exact ⟨ys, stF, rfl, h1⟩
    | exc _ _ _ => rw [q] at h1; exact h1.elim
  refine lc_it wk (fun i H' => ∃ q acc vs st', Step r1 H1 q H' ∧ SRel (gc X) (q.hide D) H' st' ∧ H' D = some (.lst vs) ∧ ¬ live q D ∧ RepL (gc X) (q.hide D) H' acc vs ∧ EnvR (gc X) (q.hide D) H' (L2.wipe s (own.map (·.2))) (wipeE env (own.map (·.2))) ∧
      lcL dg dt de (xs.drop i) acc (wipeE env (own.map (·.2))) st' = .ok ys stF)
    ⟨r1, [], [], st1, Step.new1 nD, R1.hide nD, upd_same, DL1, RepL.nil, ((E.step t1).wipe _).evo (Evo.hide nD), by rw [List.drop_zero]; exact hres⟩ (fun i H' _ p => ?_) (fun i x H' H2 hi' p y => ?_) (fun H' p => ?_)
  · obtain ⟨q, _, _, _, e, _⟩ := p
    exact hG q H' e.evo
  · obtain ⟨q, acc, vs, st', e, R', eD, nl, la, E', post⟩ := p
    have hx : xs[i]? = some xs[i] := List.getElem?_eq_getElem hi'
    obtain ⟨sm, kx⟩ := hY i (q.hide D) H' st' x H2 xs[i] (e.hideE nD) R' y hx
    rw [List.drop_eq_getElem_cons hi'] at post
    unfold lcL at post
    obtain ⟨env1, sta, q1, post⟩ := bind_ok post
    obtain ⟨b, stb, q2, post⟩ := bind_ok post
    have S2 : Step (q.hide D) H' (q.hide D) H2 := Step.same sm
    refine hg0 (q.hide D) (L2.wipe s (own.map (·.2))) H2 _ st' xs[i] x (fun _ _ _ => True) _ (E'.step S2) (R'.same sm) kx (Post.of_ok q1 fun ra Ha ta Ra s2 E2 w2 => ?_)
    refine ⟨by rw [w2 _ hv, wipe_wipe], ht0 ra s2 Ha env1 sta _ E2 Ra (Post.of_ok q2 fun rb Hb tb Rb => ?_)⟩
    have tab := ta.trans tb
    cases b with
    | false =>
      simp only [okT, Bool.false_eq_true, ↓reduceIte] at post ⊢
      obtain ⟨q', rfl⟩ := (S2.trans tab).isHide
      have U := (S2.trans tab).unhide
      exact ⟨q', acc, vs, stb, e.trans U, Rb, (S2.trans tab).keep D _ nl eD, U.dead nl eD, RepL.step (S2.trans tab) _ _ la, E'.step (S2.trans tab), post⟩
    | true =>
      simp only [okT, ↓reduceIte] at post ⊢
      obtain ⟨p, stc, q3, post⟩ := bind_ok post
      refine he0 rb s2 Hb env1 stb _ (E2.step tb) Rb (Post.of_ok q3 fun rc Hc tc Rc v kv => ?_)
      have tall := (S2.trans tab).trans tc
      obtain ⟨q', rfl⟩ := tall.isHide
      have U := tall.unhide
      have eDc := tall.keep D _ nl eD
      have lac := RepL.step tall _ _ la
      have nlc := U.dead nl eD
      have mD : D ∈ (q'.hide D).hid := List.mem_cons_self
      have hlen : acc.length < sizeLine := by
        by_cases z : acc.length < sizeLine
        · exact z
        · rw [if_neg z] at post; cases post
      rw [if_pos hlen] at post
      refine ⟨vs, eDc, by rw [← lac.len]; exact hlen, q', acc ++ [p], vs ++ [v], stc, (e.trans U).out nD, Rc.wr mD nlc, upd_same, nlc, ?_, (E'.step tall).evo (Evo.wr mD), post⟩
      exact RepL.append (RepL.evo (Evo.wr mD) _ _ lac) (RepL.cons (Rep.evo (Evo.wr mD) _ _ kv) RepL.nil)
  · obtain ⟨q, acc, vs, st', e, R', eD, nl, la, E', post⟩ := p
    rw [List.drop_length] at post
    unfold lcL at post
    cases post
    exact hk q H' _ _ vs D _ Q R' eD nl (fun z => DH1 (by rw [← e.hid]; exact z)) la r1 H1 nD e h1
theorem kok_L {G : GC} : KOk G okL := by
  intro q H st ps vs p E Q R e nl nh l r0 H0 n s h
  refine h q H s R.back _ ?_
  simp only [Rep]
  exact ⟨p, vs, rfl, e, fun z => z.elim nl nh, RepL.evo Evo.back _ _ l⟩
theorem kok_M {G : GC} : KOk G allocL := by
  intro q H st ps vs p E Q R e nl nh l r0 H0 n s h
  have S : Step r0 H0 (q.more p) H := by
    refine ⟨s.keep, s.there, Nat.le_trans s.len (by simp [Loc.more]), fun l a hl e1 => ?_, fun l a hl e1 => ?_, s.hid⟩
    · unfold Loc.more at e1; dsimp only at e1
      rw [List.getElem?_append_left (Nat.lt_of_lt_of_le hl s.len)] at e1
      exact s.old l a hl e1
    · unfold Loc.more at e1; dsimp only at e1
      by_cases hz : l < q.s.length
      · rw [List.getElem?_append_left hz] at e1; exact s.new l a hl e1
      · rw [List.getElem?_append_right (Nat.le_of_not_lt hz)] at e1
        have hz2 := lt_of_get e1
        simp at hz2
        have : l - q.s.length = 0 := by omega
        rw [this] at e1; simp at e1; subst e1; exact n
  have R2 : SRel G (q.more p) H (st ++ [.lst ps]) := by
    refine SRel.adopt R.back nl nh (by rw [e]; exact fun y => by cases y) (fun l' a c' h1 h2 k => ?_) ⟨vs, e, RepL.evo Evo.adopt _ _ l⟩
    obtain ⟨c2, h3, k2⟩ := R.at_ l' a h1
    rw [h2] at h3; cases h3
    exact k2.evo Evo.adopt rfl
  refine h (q.more p) H S R2 _ ?_
  simp only [Rep]
  have hl := R.len
  refine ⟨by rw [← hl]; simp [Loc.more, Loc.hide], fun a ha => ?_⟩
  rw [← hl] at ha
  simp [Loc.more, Loc.hide] at ha
  rw [ha]
section
variable {elt tg iter : Expr} {ifs : List Expr} {scope : Scope} {own : List (Str × Nat)} {wi : TI} {g : TG} {tv : List Nat} {tt : TT} {te : TE} {di : PEnv → M (List PV)} {dg : PV → PEnv → M PEnv} {dt : PEnv → M Bool} {de : DE} {k : List PV → M PV} {pos : Pos}
theorem se_lcK (hk : KOk (gc X) k) (hc : X.calm = true) (hN : X.N.Nodup) (hi : SI X W tg iter wi di) (ok : BlkOk X.N X.env.scope scope own)
    (hg : ∀ (s : Shared) (H : Hp) (C : Addr) (cl : List (Str × Addr)) (fp : List Addr), SG (X.blk s H scope (compEnvC scope cl C X.env) fp) tg g tv dg) (ht : ∀ (s : Shared) (H : Hp) (C : Addr) (cl : List (Str × Addr)) (fp : List Addr), STs (X.blk s H scope (compEnvC scope cl C X.env) fp) WF ifs tt dt)
    (he : ∀ (s : Shared) (H : Hp) (C : Addr) (cl : List (Str × Addr)) (fp : List Addr), SE (X.blk s H scope (compEnvC scope cl C X.env) fp) WF elt te de) (hv : ∀ i ∈ tv, i ∈ own.map (·.2) := by decide)
    (hs : ∀ x, foldedSetIterable iter X.env x = pure x := by intro _; rfl) : SE X W (.ListComp elt [⟨tg, iter, ifs, 0⟩] scope pos) (tLc wi g tt te (own.map (·.2))) (lcD k di (own.map (·.2)) dg dt de) :=
  ⟨pe_lc hc hN hi.pi ok (fun s H C cl fp => (hg s H C cl fp).pg) (fun s H C cl fp => (ht s H C cl fp).pts) (fun s H C cl fp => (he s H C cl fp).pe) hs, lc_so hk hi hg ht he hv⟩
/-- name = [..] -/
theorem ss_setLcK {i : Nat} {y : Str} {py spos : Pos} (hk : KOk (gc X) k) (hc : X.calm = true) (hN : X.N.Nodup) (hsw : swapsWith (.ListComp elt [⟨tg, iter, ifs, 0⟩] scope pos) (some (.Name y py)) spos.line X.env = pure true)
    (hi : SI X W tg iter wi di) (ok : BlkOk X.N X.env.scope scope own)
    (hg : ∀ (s : Shared) (H : Hp) (C : Addr) (cl : List (Str × Addr)) (fp : List Addr), SG (X.blk s H scope (compEnvC scope cl C X.env) fp) tg g tv dg) (ht : ∀ (s : Shared) (H : Hp) (C : Addr) (cl : List (Str × Addr)) (fp : List Addr), STs (X.blk s H scope (compEnvC scope cl C X.env) fp) WF ifs tt dt)
    (he : ∀ (s : Shared) (H : Hp) (C : Addr) (cl : List (Str × Addr)) (fp : List Addr), SE (X.blk s H scope (compEnvC scope cl C X.env) fp) WF elt te de) (hv : ∀ i ∈ tv, i ∈ own.map (·.2) := by decide)
    (hy : X.N[i]? = some y := by rfl) (hyl : X.env.scope.names.lookup y = some .local := by rfl) (hs : ∀ x, foldedSetIterable iter X.env x = pure x := by intro _; rfl) :
    SS X W (.Assign [.Name y py] (.ListComp elt [⟨tg, iter, ifs, 0⟩] scope pos) spos) (tAsg (tLc wi g tt te (own.map (·.2))) (gName i)) (setD i (lcD k di (own.map (·.2)) dg dt de)) :=
  ⟨ps_setLc hc hN hy hyl hsw hi.pi ok (fun s H C cl fp => (hg s H C cl fp).pg) (fun s H C cl fp => (ht s H C cl fp).pts) (fun s H C cl fp => (he s H C cl fp).pe) hs, fun r s H env st D E R h =>
    lc_so hk hi hg ht he hv r s H env st _ E R ((PostS.bind E h).imp fun p st1 r1 H1 t1 R1 h1 x hx => h1 r1 H1 _ Step.refl R1 ((E.step t1).set hx))⟩
end

end CD

set_option Elab.async false
set_option linter.all false
set_option maxRecDepth 100000
set_option maxHeartbeats 2000000
namespace CD
open PySem PySem.Spec PyProof.Rows L2 RZ
variable {X : Cx} {W : WX}

/-! ### what a def is worth -/
def SpF (G : GC) (n : Nat) (F : List PV → M PV) : Sp := fun vs H Q E => vs.length = n ∧ ∃ r ps st, RepL G r H ps vs ∧ SRel G r H st ∧ Post G E r H (F ps st) (okE G Q)
abbrev FnD (P : Program) (w : World) (G : GC) (base : Heap) (k : Nat) (f : Addr) (fd : FuncData) (ps : List Str) (F : List PV → M PV) : Prop :=
  FnOk P w G.K G.mg base (L2N.CX P w) k f fd ps (SpF G ps.length F)
def bodyF (N : Nat) (d : DS) : List PV → M PV := fun ps st => match d (ps.map some ++ List.replicate (N - ps.length) none) st with
  | .ok (.nx _) st' => .ok .non st'
  | .ok (.rt p) st' => .ok p st'
  | .exc e v st' => .exc e v st'
  | _ => .stuck
theorem EnvR.start {G : GC} {r : Loc} {H : Hp} {N : List Str} {ps : List PV} {vs : List V} (l : RepL G r H ps vs) : EnvR G r H (L2.start N vs) (ps.map some ++ List.replicate (N.length - ps.length) none) := by
  unfold L2.start
  refine ⟨by simp [l.len], fun i p h => ?_⟩
  by_cases hi : i < ps.length
  · rw [List.getElem?_append_left (by simpa using hi), List.getElem?_map] at h
    cases q : ps[i]? with
    | none => rw [q] at h; cases h
    | some x =>
      rw [q] at h; cases h
      obtain ⟨v, e, k⟩ := l.get q
      refine ⟨v, ?_, k⟩
      rw [List.getElem?_append_left (by rw [List.length_map, ← l.len]; exact hi), List.getElem?_map, e]; rfl
  · rw [List.getElem?_append_right (by simpa using hi)] at h
    rw [List.getElem?_replicate] at h
    split at h <;> cases h
/-- a def by its body -/
theorem def_ok {P : Program} {w : World} {G : GC} {base : Heap} {x qual : Str} {st : Stmt} {f : Addr} {fd : FuncData} {N ps : List Str} {k : Nat} {d : DS} (F : Fun G.K x qual st f fd) (S : FnScope N ps (defScope st))
    (hb : ∀ (cdv : Value) (A : Around) (outer : List Env) (s : Shared) (H : Hp) (E : XK), Room k (A.deeper (envOfC qual (defScope st) s.heap.objs.size f cdv)) →
      ∃ t, SSs (cxOf (L2N.CX P w) P w G.K G.mg base N qual (defScope st) f cdv A outer s H E) (fun cls d _ H => E cls d H) (defBody st) t d) : FnD P w G base (k + 1) f fd ps (bodyF N.length d) := by
  obtain ⟨oc, od, kV, doc, pm, an, cdv, ct, osl, rfl, lk, hcd⟩ := F.ex
  refine fn_of lk hcd S (fun vs H Q E h => h.1) fun A outer s H vs Q E hr hsp => ?_
  obtain ⟨t, h⟩ := hb cdv A outer s H E hr
  refine ⟨t, h.pss, ?_⟩
  obtain ⟨_, r, pvs, sto, l, R, post⟩ := hsp
  refine h.so r _ H (pvs.map some ++ List.replicate (N.length - pvs.length) none) sto _ (EnvR.start l) R ?_
  unfold bodyF at post
  cases q : d (pvs.map some ++ List.replicate (N.length - pvs.length) none) sto with
  | stuck => rw [q] at post; exact post
  | ok fl st' =>
    rw [q] at post
    cases fl with
    | nx env => exact fun r' H' s' t' R' E' => post r' H' t' R' _ rep_non
    | bk env => exact post.elim
    | ct env => exact post.elim
    | rt p => exact fun r' H' v t' R' k' => post r' H' t' R' v k'
  | exc e v st' => rw [q] at post; exact fun r' H' s' cls dd t' R' E' x => post r' H' cls dd t' R' x

/-! ### leaving a def: its own places are given up -/
mutual
def sub (h : Nat → Option PV) : PV → Option PV
  | .loc l => h l
  | .tup xs => (subL h xs).map .tup
  | .lst xs => (subL h xs).map .lst
  | .rls xs => (subL h xs).map .rls
  | .obj c ns fs => (subL h fs).map (.obj c ns)
  | .dct lk ks xs => (subL h xs).map (.dct lk ks)
  | .non => some .non
  | .bl b => some (.bl b)
  | .int i => some (.int i)
  | .str x => some (.str x)
  | .ty n => some (.ty n)
  | .gl x => some (.gl x)
def subL (h : Nat → Option PV) : List PV → Option (List PV)
  | [] => some []
  | x :: xs => match sub h x, subL h xs with
    | some y, some ys => some (y :: ys)
    | _, _ => none
end
def Loc.cut (r : Loc) (n : Nat) : Loc := ⟨r.s.take n, r.hid⟩
theorem cut_at {r : Loc} {n l : Nat} {a : Addr} (e : (r.cut n).s[l]? = some (some a)) : l < n ∧ r.s[l]? = some (some a) := by
  unfold Loc.cut at e; dsimp only at e
  rw [List.getElem?_take] at e
  split at e
  · rename_i h; exact ⟨h, e⟩
  · cases e
theorem av_cut {r : Loc} {n : Nat} {a : Addr} (h : ¬ av r a) : ¬ av (r.cut n) a := fun z => by
  rcases z with z | z
  · obtain ⟨l, e⟩ := live_at.mp z
    exact h (.inl (live_at.mpr ⟨l, (cut_at e).2⟩))
  · exact h (.inr z)
theorem map_some {α β : Type} {f : α → β} {o : Option α} {b : β} (h : o.map f = some b) : ∃ a, o = some a ∧ f a = b := by
  cases o with
  | none => cases h
  | some a => exact ⟨a, rfl, by cases h; rfl⟩
mutual
theorem sub_rep {G : GC} {r r2 : Loc} {H : Hp} {h : Nat → Option PV} (hav : ∀ a, ¬ av r a → ¬ av r2 a) (hh : ∀ l p v, h l = some p → Rep G r H (.loc l) v → Rep G r2 H p v) : ∀ (p q : PV) (v : V), Rep G r H p v → sub h p = some q → Rep G r2 H q v
  | .loc l, q, v, k, e => by simp only [sub] at e; exact hh l q v e k
  | .tup xs, q, v, k, e => by
    simp only [sub] at e
    obtain ⟨ys, ey, rfl⟩ := map_some e
    simp only [Rep] at k ⊢
    obtain ⟨a, vs, e1, f, l⟩ := k
    exact ⟨a, vs, e1, f.elim (fun f => .inl ⟨f.1, hav a f.2⟩) .inr, subL_rep hav hh xs ys vs l ey⟩
  | .lst xs, q, v, k, e => by
    simp only [sub] at e
    obtain ⟨ys, ey, rfl⟩ := map_some e
    simp only [Rep] at k ⊢
    obtain ⟨a, vs, e1, f, n, l⟩ := k
    exact ⟨a, vs, e1, f, hav a n, subL_rep hav hh xs ys vs l ey⟩
  | .rls xs, q, v, k, e => by
    simp only [sub] at e
    obtain ⟨ys, ey, rfl⟩ := map_some e
    simp only [Rep] at k ⊢
    obtain ⟨a, vs, e1, f, l⟩ := k
    exact ⟨a, vs, e1, f.elim (fun f => .inl ⟨f.1, hav a f.2⟩) .inr, subL_rep hav hh xs ys vs l ey⟩
  | .obj c ns fs, q, v, k, e => by
    simp only [sub] at e
    obtain ⟨ys, ey, rfl⟩ := map_some e
    simp only [Rep] at k ⊢
    obtain ⟨a, C, dx, gs, e1, m, f, z, n, l⟩ := k
    have l2 := subL_rep hav hh fs ys gs l ey
    exact ⟨a, C, dx, gs, e1, m, f, by rw [z, l.len, l2.len], hav a n, l2⟩
  | .dct lk ks xs, q, v, k, e => by
    simp only [sub] at e
    obtain ⟨ys, ey, rfl⟩ := map_some e
    simp only [Rep] at k ⊢
    obtain ⟨a, vs, e1, f, z, n, l⟩ := k
    have l2 := subL_rep hav hh xs ys vs l ey
    exact ⟨a, vs, e1, f, by rw [z, l.len, l2.len], hav a n, l2⟩
  | .non, q, v, k, e => by simp only [sub] at e; cases e; simp only [Rep] at k ⊢; exact k
  | .bl _, q, v, k, e => by simp only [sub] at e; cases e; simp only [Rep] at k ⊢; exact k
  | .int _, q, v, k, e => by simp only [sub] at e; cases e; simp only [Rep] at k ⊢; exact k
  | .str _, q, v, k, e => by simp only [sub] at e; cases e; simp only [Rep] at k ⊢; exact k
  | .ty _, q, v, k, e => by simp only [sub] at e; cases e; simp only [Rep] at k ⊢; exact k
  | .gl _, q, v, k, e => by simp only [sub] at e; cases e; simp only [Rep] at k ⊢; exact k
theorem subL_rep {G : GC} {r r2 : Loc} {H : Hp} {h : Nat → Option PV} (hav : ∀ a, ¬ av r a → ¬ av r2 a) (hh : ∀ l p v, h l = some p → Rep G r H (.loc l) v → Rep G r2 H p v) : ∀ (p q : List PV) (v : List V), RepL G r H p v → subL h p = some q → RepL G r2 H q v
  | [], q, v, k, e => by simp only [subL] at e; cases e; simp only [RepL] at k ⊢; exact k
  | x :: xs, q, v, k, e => by
    simp only [subL] at e
    simp only [RepL] at k
    obtain ⟨y, ys, rfl, a, b⟩ := k
    cases q1 : sub h x with
    | none => rw [q1] at e; cases e
    | some x' =>
      cases q2 : subL h xs with
      | none => rw [q1, q2] at e; cases e
      | some xs' => rw [q1, q2] at e; cases e; exact RepL.cons (sub_rep hav hh x x' y a q1) (subL_rep hav hh xs xs' ys b q2)
end
def lower (n : Nat) : Nat → Option PV := fun l => if l < n then some (.loc l) else none
def thaw (n : Nat) (st : Store) : Nat → Nat → Option PV
  | 0 => lower n
  | k + 1 => fun l => if l < n then some (.loc l) else match st[l]? with
    | some (.lst xs) => (subL (thaw n st k) xs).map .lst
    | some (.ins c ns fs) => (subL (thaw n st k) fs).map (.obj c ns)
    | some (.dct ks xs) => (subL (thaw n st k) xs).map (.dct false ks)
    | _ => none
def belowC (n : Nat) : Cell → Bool
  | .dead => true
  | .lst xs => match subL (lower n) xs with
    | some _ => true
    | none => false
  | .ins _ _ fs => match subL (lower n) fs with
    | some _ => true
    | none => false
  | .dct _ xs => match subL (lower n) xs with
    | some _ => true
    | none => false
theorem lower_rep {G : GC} {r : Loc} {H : Hp} {n : Nat} (hn : n ≤ r.s.length) : ∀ l p v, lower n l = some p → Rep G r H (.loc l) v → Rep G (r.cut n) H p v := fun l p v e k => by
  unfold lower at e
  split at e
  · rename_i hl
    cases e
    simp only [Rep] at k ⊢
    exact ⟨by unfold Loc.cut; simp; omega, fun a q => k.2 a (cut_at q).2⟩
  · cases e
mutual
theorem sub_lower {n : Nat} : ∀ (p q : PV), sub (lower n) p = some q → q = p
  | .loc l, q, e => by simp only [sub, lower] at e; split at e <;> cases e; rfl
  | .tup xs, q, e => by simp only [sub] at e; obtain ⟨ys, ey, rfl⟩ := map_some e; rw [subL_lower xs ys ey]
  | .lst xs, q, e => by simp only [sub] at e; obtain ⟨ys, ey, rfl⟩ := map_some e; rw [subL_lower xs ys ey]
  | .rls xs, q, e => by simp only [sub] at e; obtain ⟨ys, ey, rfl⟩ := map_some e; rw [subL_lower xs ys ey]
  | .obj c ns xs, q, e => by simp only [sub] at e; obtain ⟨ys, ey, rfl⟩ := map_some e; rw [subL_lower xs ys ey]
  | .dct lk ks xs, q, e => by simp only [sub] at e; obtain ⟨ys, ey, rfl⟩ := map_some e; rw [subL_lower xs ys ey]
  | .non, q, e => by simp only [sub] at e; cases e; rfl
  | .bl _, q, e => by simp only [sub] at e; cases e; rfl
  | .int _, q, e => by simp only [sub] at e; cases e; rfl
  | .str _, q, e => by simp only [sub] at e; cases e; rfl
  | .ty _, q, e => by simp only [sub] at e; cases e; rfl
  | .gl _, q, e => by simp only [sub] at e; cases e; rfl
theorem subL_lower {n : Nat} : ∀ (p q : List PV), subL (lower n) p = some q → q = p
  | [], q, e => by simp only [subL] at e; cases e; rfl
  | x :: xs, q, e => by
    simp only [subL] at e
    cases q1 : sub (lower n) x with
    | none => rw [q1] at e; cases e
    | some x' =>
      cases q2 : subL (lower n) xs with
      | none => rw [q1, q2] at e; cases e
      | some xs' => rw [q1, q2] at e; cases e; rw [sub_lower x x' q1, subL_lower xs xs' q2]
end
theorem below_ok {G : GC} {r : Loc} {H : Hp} {n : Nat} {a : Addr} {c : Cell} (hn : n ≤ r.s.length) (h : belowC n c = true) (k : CellOk G r H a c) : CellOk G (r.cut n) H a c := by
  cases c with
  | dead => exact k.elim
  | lst xs =>
    obtain ⟨vs, e, l⟩ := k
    simp only [belowC] at h
    split at h
    · rename_i ys hy
      have := subL_rep (fun a => av_cut) (lower_rep hn) xs ys vs l hy
      rw [subL_lower xs ys hy] at this
      exact ⟨vs, e, this⟩
    · cases h
  | ins c ns fs =>
    obtain ⟨C, dx, gs, m, e, z, l⟩ := k
    simp only [belowC] at h
    split at h
    · rename_i ys hy
      have := subL_rep (fun a => av_cut) (lower_rep hn) fs ys gs l hy
      rw [subL_lower fs ys hy] at this
      exact ⟨C, dx, gs, m, e, z, this⟩
    · cases h
  | dct ks xs =>
    obtain ⟨vs, e, z, l⟩ := k
    simp only [belowC] at h
    split at h
    · rename_i ys hy
      have := subL_rep (fun a => av_cut) (lower_rep hn) xs ys vs l hy
      rw [subL_lower xs ys hy] at this
      exact ⟨vs, e, z, this⟩
    · cases h
theorem SRel.cut {G : GC} {r : Loc} {H : Hp} {st : Store} {n : Nat} (R : SRel G r H st) (hn : n ≤ st.length) (h : (st.take n).all (belowC n) = true) : SRel G (r.cut n) H (st.take n) where
  len := by unfold Loc.cut; simp [R.len]
  at_ := fun l a e => by
    obtain ⟨hl, e⟩ := cut_at e
    obtain ⟨c, e1, k⟩ := R.at_ l a e
    have e2 : (st.take n)[l]? = some c := by rw [List.getElem?_take_of_lt hl]; exact e1
    exact ⟨c, e2, below_ok (by rw [R.len]; exact hn) (List.all_eq_true.mp h c (List.mem_of_getElem? e2)) k⟩
  has := fun l c e hd => by
    rw [List.getElem?_take] at e
    split at e
    · rename_i hl
      obtain ⟨a, q⟩ := R.has l c e hd
      exact ⟨a, by unfold Loc.cut; dsimp only; rw [List.getElem?_take_of_lt hl]; exact q⟩
    · cases e
  inj := fun l l' a e1 e2 => R.inj l l' a (cut_at e1).2 (cut_at e2).2
  hd := R.hd
  dis := fun a z m => by
    obtain ⟨l, e⟩ := live_at.mp z
    exact R.dis a (live_at.mpr ⟨l, (cut_at e).2⟩) m
theorem Step.cut {r r' : Loc} {H H' : Hp} (s : Step r H r' H') : Step r H (r'.cut r.s.length) H' where
  keep := s.keep
  there := s.there
  len := by have := s.len; unfold Loc.cut; simp; omega
  old := fun l a hl e => s.old l a hl (cut_at e).2
  new := fun l a hl e => absurd (cut_at e).1 (Nat.not_lt.mpr hl)
  hid := s.hid
theorem thaw_rep {G : GC} {r : Loc} {H : Hp} {st : Store} {n : Nat} (R : SRel G r H st) (hn : n ≤ st.length) : ∀ (k l : Nat) (p : PV) (v : V), thaw n st k l = some p → Rep G r H (.loc l) v → Rep G (r.cut n) H p v
  | 0, l, p, v, e, q => lower_rep (by rw [R.len]; exact hn) l p v e q
  | k + 1, l, p, v, e, q => by
    unfold thaw at e
    split at e
    · rename_i hl
      exact lower_rep (by rw [R.len]; exact hn) l p v (by unfold lower; rw [if_pos hl]; exact e) q
    · rename_i hl
      have nav : ∀ a, r.s[l]? = some (some a) → ¬ av (r.cut n) a := fun a ha z => by
        rcases z with z | z
        · obtain ⟨l', e'⟩ := live_at.mp z
          have := R.inj l l' a ha (cut_at e').2
          subst this
          exact hl (cut_at e').1
        · exact R.dis a (live_at.mpr ⟨l, ha⟩) z
      split at e
      · rename_i xs hs
        obtain ⟨ys, ey, rfl⟩ := map_some e
        obtain ⟨a, rfl, ha, vs, ea, z⟩ := loc_ok R q hs rfl
        simp only [Rep]
        exact ⟨a, vs, rfl, ea, nav a ha, subL_rep (fun a => av_cut) (fun l p v e k' => thaw_rep R hn k l p v e k') xs ys vs z ey⟩
      · rename_i c ns fs hs
        obtain ⟨ys, ey, rfl⟩ := map_some e
        obtain ⟨a, rfl, ha, C, dx, gs, m, ea, z, l1⟩ := loc_ok R q hs rfl
        have l2 := subL_rep (fun a => av_cut) (fun l p v e k' => thaw_rep R hn k l p v e k') fs ys gs l1 ey
        simp only [Rep]
        exact ⟨a, C, dx, gs, rfl, m, ea, by rw [z, l1.len, l2.len], nav a ha, l2⟩
      · rename_i ks xs hs
        obtain ⟨ys, ey, rfl⟩ := map_some e
        obtain ⟨a, rfl, ha, vs, ea, z, l1⟩ := loc_ok R q hs rfl
        have l2 := subL_rep (fun a => av_cut) (fun l p v e k' => thaw_rep R hn k l p v e k') xs ys vs l1 ey
        simp only [Rep]
        exact ⟨a, vs, rfl, ea, by rw [z, l1.len, l2.len], nav a ha, l2⟩
      · cases e
/-- the def's value, its own places given up -/
def leave (n : Nat) (p : PV) (st : Store) : Res PV := match sub (thaw n st 4) p with
  | some q => if (st.take n).all (belowC n) = true then .ok q (st.take n) else .stuck
  | none => .stuck
def leaveX (n : Nat) (e : PX) (v : PEnv) (st : Store) : Res PV := match subL (lower n) e.fs with
  | some _ => if (st.take n).all (belowC n) = true then .exc e v (st.take n) else .stuck
  | none => .stuck
def exitF (F : List PV → M PV) : List PV → M PV := fun ps st => match F ps st with
  | .ok p st' => leave st.length p st'
  | .exc e v st' => leaveX st.length e v st'
  | .stuck => .stuck
theorem spF_exit {G : GC} {n : Nat} {F : List PV → M PV} {vs : List V} {H : Hp} {Q : VK} {E : XK} (h : SpF G n (exitF F) vs H Q E) : SpF G n F vs H Q E := by
  obtain ⟨hl, r, ps, st, l, R, post⟩ := h
  refine ⟨hl, r, ps, st, l, R, ?_⟩
  unfold exitF at post
  cases q : F ps st with
  | stuck => rw [q] at post; exact post
  | ok p st' =>
    rw [q] at post
    intro r' H' t R' v k
    dsimp only at post
    unfold leave at post
    have hn : st.length ≤ st'.length := by rw [← R.len, ← R'.len]; exact t.len
    split at post
    · rename_i p' hp
      split at post
      · rename_i hb
        refine post (r'.cut st.length) H' (by rw [← R.len]; exact t.cut) (R'.cut hn hb) v ?_
        exact sub_rep (fun a => av_cut) (fun l p v e k' => thaw_rep R' hn 4 l p v e k') p p' v k hp
      · exact post.elim
    · exact post.elim
  | exc e v st' =>
    rw [q] at post
    intro r' H' cls dd t R' x
    dsimp only at post
    unfold leaveX at post
    have hn : st.length ≤ st'.length := by rw [← R.len, ← R'.len]; exact t.len
    split at post
    · rename_i p' hp
      split at post
      · rename_i hb
        refine post (r'.cut st.length) H' cls dd (by rw [← R.len]; exact t.cut) (R'.cut hn hb) ?_
        obtain ⟨C, m, e1, y⟩ := x
        refine ⟨C, m, e1, y.imp id fun ⟨d, gs, e2, e3, n3, e4, l3⟩ => ⟨d, gs, e2, e3, av_cut n3, e4, ?_⟩⟩
        have := subL_rep (fun a => av_cut) (lower_rep (by rw [R'.len]; exact hn)) e.fs p' gs l3 hp
        rw [subL_lower e.fs p' hp] at this
        exact this
      · exact post.elim
    · exact post.elim
theorem FnD.exit {P : Program} {w : World} {G : GC} {base : Heap} {k : Nat} {f : Addr} {fd : FuncData} {ps : List Str} {F : List PV → M PV} (h : FnD P w G base k f fd ps F) : FnD P w G base k f fd ps (exitF F) :=
  FnOk.imp h fun vs H Q E q => spF_exit q
/-- another function with the same results -/
theorem FnD.of {P : Program} {w : World} {G : GC} {base : Heap} {k : Nat} {f : Addr} {fd : FuncData} {ps : List Str} {F F' : List PV → M PV} (h : FnD P w G base k f fd ps F) (e : ∀ a st, F' a st = .stuck ∨ F' a st = F a st) : FnD P w G base k f fd ps F' :=
  FnOk.imp h fun vs H Q E ⟨q1, r, a, st, l, R, post⟩ => ⟨q1, r, a, st, l, R, by
    rcases e a st with z | z
    · rw [z] at post; exact post.elim
    · rw [← z]; exact post⟩

/-! ### calls -/
def callF (n : Nat) (F : List PV → M PV) (ds : PEnv → M (List PV)) (dps : List PV) : DE := fun env st => (ds env st).bind fun ps st => if (ps ++ dps).length = n then F (ps ++ dps) st else .stuck
theorem se_call {k : Nat} {f : Addr} {fd : FuncData} {pa : List Str} {F : List PV → M PV} {dps : List PV} {dvs : List V} {ds : List Value} {x : Str} {p pos : Pos} {e : Expr} {es : List Expr} {t : TA} {da : PEnv → M (List PV)}
    (hF : FnD X.prog X.w (gc X) X.base k f fd pa F) (hr : Room k X.A) (hm : X.mg x = some (.ref f)) (hk : PySem.W.keepIn X.K (.ref f) = true) (hb : Binds X.K fd pa ds) (tk : L2N.Takes X W) (ha : SA X W (e :: es) t da)
    (hd : Vals dvs ds) (hdr : ∀ r H, RepL (gc X) r H dps dvs) (hg : Gl X x := by rfl) (hdb : (x == ("__debug__" : Str)) = false := by decide)
    (he : starEach (e :: es) X.env = (false, eval e X.env) :: starEach es X.env := by rfl) (hpl : (backTo pos (starEach es X.env)).any (·.1) = false := by rfl) :
    SE X W (.Call (.Name x p) (e :: es) [] pos) (tCallSD (SpF (gc X) pa.length F) dvs (fun s => WE W s) t) (callF pa.length F da dps) := by
  refine ⟨pe_callSD hF hr hg hm hk hb hd (fun s => L2N.passAt tk s) ha.pa hdb he hpl, fun r s H env st Q E R h => ?_⟩
  refine ha.so r s H env st _ E R (h.bind.imp fun ps st1 r1 H1 t1 R1 h1 vs hv => ?_)
  have lv : RepL (gc X) r1 H1 (ps ++ dps) (vs ++ dvs) := hv.append (hdr r1 H1)
  split at h1
  · rename_i hl
    exact ⟨by rw [← lv.len]; exact hl, r1, _, st1, lv, R1, h1⟩
  · exact h1.elim

/-! ### a place is frozen ahead of a block -/
def frzD (i : Nat) (d : DS) : DS := fun env st => match env[i]? with
  | some (some (.loc l)) => match st[l]? with
    | some (.lst xs) => d (env.set i (some (.lst xs))) (st.set l .dead)
    | _ => .stuck
  | _ => .stuck
theorem ss_frz {st : List Stmt} {t : TS} {d : DS} (i : Nat) (h : SSs X W st t d) : SSs X W st t (frzD i d) := by
  refine ⟨h.pss, fun r s H env sto D E R post => ?_⟩
  unfold frzD at post
  split at post
  · rename_i l he
    split at post
    · rename_i xs hs
      obtain ⟨v, hv, k⟩ := E.2 i _ he
      obtain ⟨a, rfl, ha, vs, ea, z⟩ := loc_ok R k hs rfl
      refine h.so (r.kill l) s H _ _ D ?_ R.kill (PostS.mono Step.kill post)
      have E2 : EnvR (gc X) (r.kill l) H s env := E.step Step.kill
      refine ⟨by rw [E.1]; simp, fun j q hj => ?_⟩
      rw [List.getElem?_set] at hj
      split at hj
      · rename_i hij
        subst hij
        split at hj
        · cases hj
          refine ⟨_, hv, ?_⟩
          simp only [Rep]
          refine ⟨a, vs, rfl, ea, fun y => ?_, RepL.step Step.kill _ _ z⟩
          rcases y with y | y
          · obtain ⟨l', e'⟩ := live_at.mp y
            exact (kill_at e').1 (R.inj l' l a (kill_at e').2 ha)
          · exact R.dis a (live_at.mpr ⟨l, ha⟩) y
        · cases hj
      · exact E2.2 j q hj
    · exact post.elim
  · exact post.elim

/-! ### methods of built-in types -/
def methD (ok : Store → PV → Bool) (f : PV → List PV → M PV) (d : DE) (ds : PEnv → M (List PV)) : DE := fun env st => (d env st).bind fun p st => if ok st p = true then (ds env st).bind fun qs st => f p qs st else .stuck
def SMeth (G : GC) (r2 : V → List V → Hp → VK → Prop) (f : PV → List PV → M PV) : Prop :=
  ∀ (r : Loc) (H : Hp) (st : Store) (p : PV) (x : V) (ps : List PV) (xs : List V) (E : Value → Option Addr → Hp → Prop) (Q : VK), SRel G r H st → Rep G r H p x → RepL G r H ps xs → Post G E r H (f p ps st) (okE G Q) → r2 x xs H Q
def STy (G : GC) (T : String) (ok : Store → PV → Bool) : Prop := ∀ (r : Loc) (H : Hp) (st : Store) (p : PV) (x : V), SRel G r H st → Rep G r H p x → ok st p = true → tyV G.K T x H
def isL : Store → PV → Bool := fun st p => match sqlOf st p with
  | some _ => true
  | none => false
theorem sty_list {G : GC} : STy G "list" isL := by
  intro r H st p x R k h
  unfold isL at h
  split at h
  · rename_i xs hs
    obtain ⟨a, vs, rfl, f, l⟩ := sqlOf_ok R k hs
    exact .inl ⟨rfl, vs, f⟩
  · cases h
def isS : Store → PV → Bool := fun _ p => match p with
  | .str _ => true
  | _ => false
theorem sty_str {G : GC} : STy G "str" isS := by
  intro r H st p x R k h
  cases p with
  | str z => simp only [Rep] at k; subst k; rfl
  | _ => cases h
section
variable {o e : Expr} {es : List Expr} {to : TE} {t : TA} {d : DE} {ds : PEnv → M (List PV)} {name : Str} {apos cpos : Pos} {T id : String} {r2 : V → List V → Hp → VK → Prop} {ok : Store → PV → Bool} {f : PV → List PV → M PV}
theorem se_bm (pa : PlainAttrs T) (slot : Slot T name id) (hty : typeOf (.builtin id) = pure (.type "method_descriptor")) (hm : MtR X id r2) (hT : STy (gc X) T ok) (hf : SMeth (gc X) r2 f) (ho : SE X W o to d) (ha : SA X W (e :: es) t ds)
    (hbase : attributeBase o name X.env (eval o X.env) = eval o X.env := by rfl)
    (hfew : ((backTo cpos (starEach (e :: es) X.env)).all (fun x => !x.1) && (backToKw cpos (keywordEach [] X.env)).all (fun x => x.1.isSome)
      && decide ((e :: es).length + ([] : List Keyword).length + (if ([] : List Keyword).isEmpty then 0 else 1) < 30)) = true := by rfl)
    (hline : (apos.endLine == cpos.line) = true := by rfl) (hs : starEach (e :: es) X.env = (false, eval e X.env) :: starEach es X.env := by rfl) (hplain : (backTo cpos (starEach es X.env)).any (·.1) = false := by rfl) :
    SE X W (.Call (.Attribute o name apos) (e :: es) [] cpos) (tBM X.K T r2 to t) (methD ok f d ds) := by
  refine ⟨pe_bm pa slot hty hm ho.pe ha.pa hbase hfew hline hs hplain, fun r s H env st Q E R h => ?_⟩
  refine ho.so r s H env st _ E R (h.bind.imp fun p st1 r1 H1 t1 R1 h1 x hx => ?_)
  split at h1
  · rename_i hk
    refine ⟨hT r1 H1 st1 p x R1 hx hk, ha.so r1 s H1 env st1 _ (E.step t1) R1 (h1.bind.imp fun qs st2 r2' H2 t2 R2 h2 xs hxs => ?_)⟩
    exact hf r2' H2 st2 p x qs xs _ _ R2 (Rep.step t2 p x hx) hxs h2
  · exact h1.elim
theorem se_bm0 (pa : PlainAttrs T) (slot : Slot T name id) (hty : typeOf (.builtin id) = pure (.type "method_descriptor")) (hm : MtR X id r2) (hT : STy (gc X) T ok) (hf : SMeth (gc X) r2 f) (ho : SE X W o to d)
    (hbase : attributeBase o name X.env (eval o X.env) = eval o X.env := by rfl) (hline : (apos.endLine == cpos.line) = true := by rfl) : SE X W (.Call (.Attribute o name apos) [] [] cpos) (tBM0 X.K T r2 to) (methD ok f d dNil) := by
  refine ⟨pe_bm0 pa slot hty hm ho.pe hbase hline, fun r s H env st Q E R h => ?_⟩
  refine ho.so r s H env st _ E R (h.bind.imp fun p st1 r1 H1 t1 R1 h1 x hx => ?_)
  split at h1
  · rename_i hk
    exact ⟨hT r1 H1 st1 p x R1 hx hk, hf r1 H1 st1 p x [] [] _ _ R1 hx RepL.nil h1⟩
  · exact h1.elim
end
/-- a list that is a place of the store -/
def locOf (st : Store) : PV → Option (Nat × List PV)
  | .loc l => match st[l]? with
    | some (.lst xs) => some (l, xs)
    | _ => none
  | _ => none
theorem locOf_ok {G : GC} {r : Loc} {H : Hp} {st : Store} {p : PV} {v : V} {l : Nat} {xs : List PV} (R : SRel G r H st) (k : Rep G r H p v) (h : locOf st p = some (l, xs)) : ∃ a vs, v = .ref a ∧ r.s[l]? = some (some a) ∧ H a = some (.lst vs) ∧ RepL G r H xs vs := by
  cases p with
  | loc l' =>
    simp only [locOf] at h
    split at h
    · rename_i ys hl
      cases h
      obtain ⟨a, e, ha, vs, q, z⟩ := loc_ok R k hl rfl
      exact ⟨a, vs, e, ha, q, z⟩
    · cases h
  | _ => cases h
theorem write_ok {G : GC} {r : Loc} {H : Hp} {st : Store} {l : Nat} {a : Addr} {xs : List PV} {vs : List V} (R : SRel G r H st) (ha : r.s[l]? = some (some a)) (z : RepL G r H xs vs) :
    Step r H r (upd H a (.lst vs)) ∧ SRel G r (upd H a (.lst vs)) (st.set l (.lst xs)) := by
  have S : Step r H r (upd H a (.lst vs)) := by
    refine ⟨fun b u n e => ?_, fun b e => ?_, Nat.le_refl _, fun _ _ _ h => h, fun l a h e => absurd (lt_of_get e) (Nat.not_lt.mpr h), rfl⟩
    · rw [upd_ne (fun z => n (by subst z; exact live_at.mpr ⟨l, ha⟩))]; exact e
    · unfold upd; split
      · exact fun y => by cases y
      · exact e
  exact R.write ha ⟨vs, upd_same, RepL.step S _ _ z⟩
def appF : PV → List PV → M PV := fun p qs st => match qs, locOf st p with
  | [q], some (l, xs) => if xs.length < sizeLine then .ok .non (st.set l (.lst (xs ++ [q]))) else .stuck
  | _, _ => .stuck
theorem smeth_append {G : GC} : SMeth G rAppend appF := by
  intro r H st p x ps xs E Q R hx hxs h
  unfold appF at h
  split at h
  · rename_i q l ys hl
    obtain ⟨v, rfl, k⟩ := rep1 hxs
    obtain ⟨a, vs, rfl, ha, ea, z⟩ := locOf_ok R hx hl
    split at h
    · rename_i hz
      obtain ⟨S, R'⟩ := write_ok R ha (z.append (RepL.cons k RepL.nil))
      exact ⟨a, vs, v, rfl, rfl, ea, by rw [← z.len]; exact hz, h r _ S R' _ rep_non⟩
    · exact h.elim
  · exact h.elim
def extF : PV → List PV → M PV := fun p qs st => match qs, locOf st p with
  | [q], some (l, xs) => match lstOf st q with
    | some ys => if xs.length + ys.length ≤ sizeLine then .ok .non (st.set l (.lst (xs ++ ys))) else .stuck
    | none => .stuck
  | _, _ => .stuck
theorem smeth_extend {G : GC} : SMeth G rExtend extF := by
  intro r H st p x ps xs E Q R hx hxs h
  unfold extF at h
  split at h
  · rename_i q l ys hl
    obtain ⟨v, rfl, k⟩ := rep1 hxs
    obtain ⟨a, vs, rfl, ha, ea, z⟩ := locOf_ok R hx hl
    split at h
    · rename_i zs hzs
      obtain ⟨b, ws, rfl, eb, z2⟩ := lstOf_ok R k hzs
      split at h
      · rename_i hz
        obtain ⟨S, R'⟩ := write_ok R ha (z.append z2)
        exact ⟨a, b, vs, ws, rfl, rfl, ea, eb, by rw [← z.len, ← z2.len]; exact hz, h r _ S R' _ rep_non⟩
      · exact h.elim
    · exact h.elim
  · exact h.elim
def popF : PV → List PV → M PV := fun p qs st => match qs, locOf st p with
  | [], some (l, xs) => match xs[xs.length - 1]? with
    | some q => .ok q (st.set l (.lst xs.dropLast))
    | none => .stuck
  | _, _ => .stuck
theorem RepL.dropLast {G : GC} {r : Loc} {H : Hp} {p : List PV} {v : List V} (h : RepL G r H p v) : RepL G r H p.dropLast v.dropLast := by
  rw [List.dropLast_eq_take, List.dropLast_eq_take, h.len]; exact h.take _
theorem smeth_pop {G : GC} : SMeth G rPop popF := by
  intro r H st p x ps xs E Q R hx hxs h
  unfold popF at h
  split at h
  · rename_i l ys hl
    simp only [RepL] at hxs
    subst hxs
    obtain ⟨a, vs, rfl, ha, ea, z⟩ := locOf_ok R hx hl
    split at h
    · rename_i q hq
      obtain ⟨w, hw, kw⟩ := z.get hq
      obtain ⟨S, R'⟩ := write_ok R ha z.dropLast
      exact ⟨a, vs, w, rfl, rfl, ea, by rw [← z.len]; exact hw, h r _ S R' _ (Rep.step S _ _ kw)⟩
    · exact h.elim
  · exact h.elim
def popAtF : PV → List PV → M PV := fun p qs st => match qs, locOf st p with
  | [.int i], some (l, xs) => match (if -(2 ^ 63) ≤ i ∧ i < 2 ^ 63 then seqIndex? i xs.length else none) with
    | some k => match xs[k]? with
      | some q => .ok q (st.set l (.lst (xs.eraseIdx k)))
      | none => .stuck
    | none => .stuck
  | _, _ => .stuck
theorem smeth_popAt {G : GC} : SMeth G rPopAt popAtF := by
  intro r H st p x ps xs E Q R hx hxs h
  unfold popAtF at h
  split at h
  · rename_i i l ys hl
    obtain ⟨v, rfl, kv⟩ := rep1 hxs
    simp only [Rep] at kv
    subst kv
    obtain ⟨a, vs, rfl, ha, ea, z⟩ := locOf_ok R hx hl
    split at h
    · rename_i k hk
      split at h
      · rename_i q hq
        split at hk
        · rename_i hb
          obtain ⟨w, hw, kw⟩ := z.get hq
          obtain ⟨S, R'⟩ := write_ok R ha (z.eraseIdx k)
          exact ⟨a, vs, i, k, w, rfl, rfl, ea, hb.1, hb.2, by rw [← z.len]; exact hk, hw, h r _ S R' _ (Rep.step S _ _ kw)⟩
        · cases hk
      · exact h.elim
    · exact h.elim
  · exact h.elim

/-! ### xs[i] = e, xs[i] += e, x += e -/
def setI (p q v : PV) : M Unit := fun st => match q, locOf st p with
  | .int i, some (l, xs) => match ixN xs.length i with
    | some j => .ok () (st.set l (.lst (xs.set j v)))
    | none => .stuck
  | _, _ => .stuck
theorem setI_ok {G : GC} {E : Value → Option Addr → Hp → Prop} {r : Loc} {H : Hp} {st : Store} {p q v : PV} {x y z : V} {Q : Hp → Prop} (R : SRel G r H st) (hx : Rep G r H p x) (hy : Rep G r H q y) (hz : Rep G r H v z)
    (h : Post G E r H (setI p q v st) (fun _ _ _ H' => Q H')) : rSetL x y z H Q := by
  unfold setI at h
  split at h
  · rename_i i l xs hl
    simp only [Rep] at hy
    obtain ⟨a, vs, rfl, ha, ea, zz⟩ := locOf_ok R hx hl
    split at h
    · rename_i j hj
      obtain ⟨S, R'⟩ := write_ok R ha (zz.set j hz)
      exact ⟨a, vs, i, j, rfl, hy, ea, by rw [← zz.len]; exact hj, h r _ S R'⟩
    · exact h.elim
  · exact h.elim
def gIx (d e : DE) : PV → PEnv → M PEnv := fun v env st => (d env st).bind fun p st => (e env st).bind fun q st => (setI p q v st).bind fun _ st => .ok env st
theorem sg_ix {o i : Expr} {to ti : TE} {d e : DE} {pos : Pos} (ho : SE X WF o to d) (hi : SE X WF i ti e)
    (ha : ∀ v, assign (.Subscript o i pos) X.env v = (do
      let ov ← holding [v] (eval o X.env)
      let iv ← holding [v, ov] (eval i X.env)
      standAt pos
      holding [v, ov, iv] (setItem ov iv v)
      release [v, ov, iv] []) := by intro _; rfl) : SG X (.Subscript o i pos) (gSub to ti rSetL) [] (fun v env st => noX (gIx d e v env st)) := by
  refine ⟨pg_sub ho.pe hi.pe set_list ha, fun r s H env st p v E Q en R k h => ?_⟩
  have h := Post.noX (E' := fun c d H => WF c d s H) h
  refine ho.so r s H env st _ en R (h.bind.imp fun po st1 r1 H1 t1 R1 h1 x hx => ?_)
  refine hi.so r1 s H1 env st1 _ (en.step t1) R1 (h1.bind.imp fun pi st2 r2 H2 t2 R2 h2 y hy => ?_)
  refine setI_ok R2 (Rep.step t2 _ _ hx) hy (Rep.step (t1.trans t2) _ _ k) (h2.bind.imp fun _ st3 r3 H3 t3 R3 h3 => ?_)
  exact h3 r3 H3 Step.refl R3 s ((en.step (t1.trans t2)).step t3) fun _ _ => rfl
/-- x += e -/
def augD (i : Nat) (f : PV → PV → M PV) (de : DE) : DS := fun env st => match env[i]? with
  | some (some p) => (tagE env (de env st)).bind fun q st => (tagE env (f p q st)).bind fun v st => .ok (.nx (env.set i (some v))) st
  | _ => .stuck
theorem ss_aug {i : Nat} {x : Str} {e : Expr} {te : TE} {de : DE} {op : Operator} {r2 : R2} {f : PV → PV → M PV} {pos pos' : Pos} (hN : X.N.Nodup) (he : SE X W e te de) (ho : OpR X (inplaceOp op) r2) (hf : SOp (gc X) r2 f) (hi : X.N[i]? = some x := by rfl)
    (hx : L2.Loc X.env.scope x := by first | exact Or.inl rfl | exact Or.inr rfl) (hfn : X.fn x = true ∨ X.env.scope.names.lookup x = some .local := by first | exact .inl rfl | exact .inr rfl) : SS X W (.AugAssign (.Name x pos') op e pos) (tAug i te r2) (augD i f de) := by
  refine ⟨ps_aug hN hi hx he.pe ho hfn, fun r s H env st D E R h => ?_⟩
  unfold augD at h
  split at h
  · rename_i p hp
    obtain ⟨v, hv, k⟩ := E.2 i p hp
    refine ⟨v, hv, he.so r s H env st _ E R ((PostS.bind E h).imp fun q st1 r1 H1 t1 R1 h1 y hy => ?_)⟩
    refine hf r1 H1 st1 p q v y (fun c d H => W c d s H) _ R1 (Rep.step t1 _ _ k) hy ((PostS.bind (E.step t1) h1).imp fun z st2 r2' H2 t2 R2 h2 u hu => ?_)
    exact h2 r2' H2 _ Step.refl R2 (((E.step t1).step t2).set hu)
  · exact h.elim
theorem pget_list : PGet X (rIxL X.K) := by
  intro pins s sg H o i ov iv Q I ro ri h
  obtain ⟨p, xs, n, z, rfl, rfl, hq, he, q⟩ := h
  cases ro
  obtain ⟨t, rfl⟩ := ri
  obtain ⟨its, rv, pl, hz⟩ := I.list hq
  obtain ⟨j, h1, h2, h3, h4, h5⟩ := atI_get he
  obtain ⟨w, ew, rw'⟩ := rv.get h2
  have hl := rv.length
  have hn := line63
  have fin : EP X pins sg Q w s := ⟨z, H, I, rw', q⟩
  by_cases h0 : 0 ≤ n
  · have hj : n.toNat = j := by
      have g1 := h1
      rw [seqIndex_of h0 h5] at g1
      exact Option.some.inj g1
    exact thn (wpAny_getItem_list (Q := fun u s' => u = w ∧ EP X pins sg Q u s') pl.isList h0 (by omega) (by rw [hj]; simpa using ew) ⟨rfl, fin⟩) fun _ _ y => y.2
  · have hj : (n + (its.toArray.size : Int)).toNat = j := by
      have g1 := h1
      rw [seqIndex_neg (by omega) h4] at g1
      rw [List.size_toArray, ← hl]
      exact Option.some.inj g1
    exact thn (wpAny_getItem_list_neg (Q := fun u s' => u = w ∧ EP X pins sg Q u s') pl.isList (by omega) (by rw [List.size_toArray] <;> omega) (by omega) (by rw [hj]; simpa using ew) ⟨rfl, fin⟩) fun _ _ y => y.2
def ixL : PV → PV → M PV := fun p q st => match q, sqlOf st p with
  | .int i, some xs => match atI xs i with
    | some v => .ok v st
    | none => .stuck
  | _, _ => .stuck
theorem sop_ixL {G : GC} : SOp G (rIxL G.K) ixL := by
  intro r H st p q x y E Q R hx hy h
  unfold ixL at h
  split at h
  · rename_i i xs hs
    split at h
    · rename_i v hv
      simp only [Rep] at hy
      obtain ⟨a, vs, e, f, l⟩ := sqlOf_ok R hx hs
      obtain ⟨w, hw, k⟩ := atI_rep l hv
      exact ⟨a, vs, i, w, e, hy, f, hw, h r H Step.refl R _ k⟩
    · exact h.elim
  · exact h.elim
/-- xs[i] += e -/
def augI (f : PV → PV → M PV) (d e de : DE) : DS := fun env st => (tagE env (d env st)).bind fun o st => (tagE env (e env st)).bind fun i st => (tagE env (ixL o i st)).bind fun x st => (tagE env (de env st)).bind fun y st => (tagE env (f x y st)).bind fun z st =>
  (tagE env (setI o i z st)).bind fun _ st => .ok (.nx env) st
theorem ss_augI {o i e : Expr} {to ti te : TE} {d1 d2 de : DE} {op : Operator} {r2 : R2} {f : PV → PV → M PV} {tpos pos : Pos} (ho : SE X W o to d1) (hi : SE X W i ti d2) (he : SE X W e te de) (hp : OpR X (inplaceOp op) r2) (hf : SOp (gc X) r2 f)
    (ha : ∀ ov iv new, augStore i ov iv new = (do holding [new, ov, iv] (setItem ov iv new); release [new, ov, iv] []; pure .next) := by intros; rfl) :
    SS X W (.AugAssign (.Subscript o i tpos) op e pos) (tAugS to ti te (rIxL X.K) r2 rSetL) (augI f d1 d2 de) := by
  refine ⟨ps_augS ho.pe hi.pe pget_list he.pe hp set_list ha, fun r s H env st D E R h => ?_⟩
  refine ho.so r s H env st _ E R ((PostS.bind E h).imp fun p st1 r1 H1 t1 R1 h1 x hx => ?_)
  have E1 := E.step t1
  refine hi.so r1 s H1 env st1 _ E1 R1 ((PostS.bind E1 h1).imp fun q st2 r2' H2 t2 R2 h2 y hy => ?_)
  have E2 := E1.step t2
  refine sop_ixL r2' H2 st2 p q x y (fun c d H => W c d s H) _ R2 (Rep.step t2 _ _ hx) hy ((PostS.bind E2 h2).imp fun z st3 r3 H3 t3 R3 h3 u hu => ?_)
  have E3 := E2.step t3
  refine he.so r3 s H3 env st3 _ E3 R3 ((PostS.bind E3 h3).imp fun z2 st4 r4 H4 t4 R4 h4 u2 hu2 => ?_)
  have E4 := E3.step t4
  refine hf r4 H4 st4 z z2 u u2 (fun c d H => W c d s H) _ R4 (Rep.step t4 _ _ hu) hu2 ((PostS.bind E4 h4).imp fun z3 st5 r5 H5 t5 R5 h5 u3 hu3 => ?_)
  have E5 := E4.step t5
  refine setI_ok (E := fun c d H => W c d s H) R5 (Rep.step (((t2.trans t3).trans t4).trans t5) _ _ hx) (Rep.step ((t3.trans t4).trans t5) _ _ hy) hu3 ((PostS.bind E5 h5).imp fun _ st6 r6 H6 t6 R6 h6 => ?_)
  exact h6 r6 H6 s Step.refl R6 (E5.step t6)

end CD

set_option Elab.async false
set_option linter.all false
set_option maxRecDepth 100000
set_option maxHeartbeats 2000000
namespace CD
open PySem PySem.Spec PyProof.Rows L2 RZ StX ClX
variable {X : Cx} {W : WX}

/-! ### a def run by its values, within X -/
abbrev FnP (P : Program) (w : World) (G : GC) (base : Heap) (k : Nat) (f : Addr) (n : Nat) (F : List PV → M PV) : Prop := FnR P w G.K G.mg base (L2N.CX P w) k f (SpF G n F)
theorem FnD.pos {P : Program} {w : World} {G : GC} {base : Heap} {k : Nat} {f : Addr} {fd : FuncData} {ps : List Str} {F : List PV → M PV} (h : FnD P w G base k f fd ps F) (hb : Binds G.K fd ps []) : FnP P w G base k f ps.length F :=
  (FnOk.raw h hb .nil).imp fun vs H Q E q => by rw [List.append_nil]; exact q
section
variable {pins : List (Addr × Obj)} {s : Shared} {sg : St} {H : Hp} {k n : Nat} {f : Addr} {F : List PV → M PV} {us : List Value} {vs : List V} {Q : VK}
theorem run_pos (hF : FnP X.prog X.w (gc X) X.base k f n F) (hr : Room k X.A) (tk : L2N.Takes X W) (I : Inv X pins sg H s) (r : Vals vs us) (h : SpF (gc X) n F vs H Q (fun c d H => W c d sg H)) :
    wpAny (model X.prog X.w) X.A (call (.ref f) us) (EP X pins sg Q) X.xe s := by
  refine wpAny_call (codeAny_mono (hF X.A X.stack s H us vs Q _ hr I.env0 r h) fun rr s' hq => ?_)
  cases rr with
  | error e => exact L2N.passAt tk sg pins H s e s' I hq
  | ok fl =>
    cases fl with
    | ret u => exact I.after hq
    | next => exact False.elim hq
    | brk => exact False.elim hq
    | cont => exact False.elim hq
/-- .. one call deeper, nothing raised -/
theorem run_pos1 {E' : Value → Shared → Prop} (hF : FnP X.prog X.w (gc X) X.base k f n F) (hr : Room (k + 1) X.A) (I : Inv X pins sg H s) (r : Vals vs us) (h : SpF (gc X) n F vs H Q (fun _ _ _ => False)) :
    wpAny (model X.prog X.w) X.A.in1 (call (.ref f) us) (EP X pins sg Q) E' s := by
  refine wpAny_call (codeAny_mono (hF X.A.in1 X.stack s H us vs Q _ hr.in1 I.env0.in1 r h) fun rr s' hq => ?_)
  cases rr with
  | error e =>
    obtain ⟨_, _, _, _, _, _, _, _, _, _, _, _, z⟩ := hq
    exact z.elim
  | ok fl =>
    cases fl with
    | ret u => exact I.after hq
    | next => exact False.elim hq
    | brk => exact False.elim hq
    | cont => exact False.elim hq
end
theorem SpF.mk {G : GC} {n : Nat} {F : List PV → M PV} {r : Loc} {H : Hp} {st : Store} {ps : List PV} {vs : List V} {Q : VK} {E : XK} (hn : ps.length = n) (l : RepL G r H ps vs) (R : SRel G r H st) (h : Post G E r H (F ps st) (okE G Q)) : SpF G n F vs H Q E :=
  ⟨by rw [← l.len]; exact hn, r, ps, st, l, R, h⟩

/-! ### instances: fields -/
/-- what the text must tell of a class: read and store as usual -/
structure ClsF (G : GC) (c : Str) : Prop where
  cls : ∀ C, G.mg c = some (.ref C) → Cls G.K C
structure FldF (G : GC) (c f : Str) : Prop where
  cls : ∀ C, G.mg c = some (.ref C) → Cls G.K C
  no : ∀ C, G.mg c = some (.ref C) → NoAttr G.K C f
/-- the class, the names and the values of an instance's fields -/
def insOf (st : Store) : PV → Option (Str × List Str × List PV)
  | .obj c ns fs => some (c, ns, fs)
  | .loc l => match st[l]? with
    | some (.ins c ns fs) => some (c, ns, fs)
    | _ => none
  | _ => none
theorem insOf_ok {G : GC} {r : Loc} {H : Hp} {st : Store} {p : PV} {v : V} {c : Str} {ns : List Str} {fs : List PV} (R : SRel G r H st) (k : Rep G r H p v) (h : insOf st p = some (c, ns, fs)) :
    ∃ a C dx gs, v = .ref a ∧ G.mg c = some (.ref C) ∧ H a = some (.ins C dx (ns.zip gs)) ∧ ns.length = fs.length ∧ RepL G r H fs gs := by
  cases p with
  | obj c' ns' fs' =>
    cases h
    simp only [Rep] at k
    obtain ⟨a, C, dx, gs, e, m, f, z, _, l⟩ := k
    exact ⟨a, C, dx, gs, e, m, f, z, l⟩
  | loc l =>
    simp only [insOf] at h
    split at h
    · rename_i c' ns' fs' hl
      cases h
      obtain ⟨a, e, _, C, dx, gs, m, q, z, l⟩ := loc_ok R k hl rfl
      exact ⟨a, C, dx, gs, e, m, q, z, l⟩
    · cases h
  | _ => cases h
def lookP : List Str → List PV → Str → Option PV
  | n :: ns, p :: ps, f => if n = f then some p else lookP ns ps f
  | _, _, _ => none
theorem lookP_ok {G : GC} {r : Loc} {H : Hp} {f : Str} : ∀ {ns : List Str} {ps : List PV} {gs : List V} {p : PV}, RepL G r H ps gs → lookP ns ps f = some p → ∃ v, (ns.zip gs).lookup f = some v ∧ Rep G r H p v
  | [], _, _, _, _, h => by simp [lookP] at h
  | n :: ns, [], _, _, _, h => by simp [lookP] at h
  | n :: ns, q :: qs, gs, p, l, h => by
    simp only [RepL] at l
    obtain ⟨v, ws, rfl, a, b⟩ := l
    unfold lookP at h
    rw [List.zip_cons_cons, List.lookup_cons]
    split at h
    · rename_i e
      cases h; subst e
      exact ⟨v, by simp, a⟩
    · rename_i e
      obtain ⟨w, h1, h2⟩ := lookP_ok b h
      refine ⟨w, ?_, h2⟩
      have : (f == n) = false := beq_eq_false_iff_ne.mpr (fun z => e z.symm)
      rw [this]; exact h1
def fldD (c f : Str) (d : DE) : DE := fun env st => (d env st).bind fun p st => match insOf st p with
  | some (c', ns, fs) => if c' = c then match lookP ns fs f with
    | some q => .ok q st
    | none => .stuck
    else .stuck
  | none => .stuck
theorem se_fld {e : Expr} {te : TE} {d : DE} {c f : Str} {pos : Pos} (F : FldF (gc X) c f) (he : SE X W e te d) (hb : attributeBase e f X.env (eval e X.env) = eval e X.env := by rfl) : SE X W (.Attribute e f pos) (tFld X.K te f) (fldD c f d) := by
  refine ⟨pe_fld he.pe hb, fun r s H env st Q E R h => ?_⟩
  refine he.so r s H env st _ E R (h.bind.imp fun p st1 r1 H1 t1 R1 h1 x hx => ?_)
  split at h1
  · rename_i c' ns fs hi
    split at h1
    · rename_i hc
      subst hc
      split at h1
      · rename_i q hq
        obtain ⟨a, C, dx, gs, rfl, m, ea, z, l⟩ := insOf_ok R1 hx hi
        obtain ⟨v, hv, kv⟩ := lookP_ok l hq
        exact ⟨a, C, dx, _, v, rfl, ea, F.cls C m, F.no C m, hv, h1 r1 H1 Step.refl R1 _ kv⟩
      · exact h1.elim
    · exact h1.elim
  · exact h1.elim
/-- o.f = e, o a place -/
def putP (f : Str) (v : PV) : List Str → List PV → List Str × List PV
  | n :: ns, p :: ps => if n = f then (n :: ns, v :: ps) else let r := putP f v ns ps; (n :: r.1, p :: r.2)
  | _, _ => ([f], [v])
theorem putP_ok {G : GC} {r : Loc} {H : Hp} {f : Str} {p : PV} {v : V} (k : Rep G r H p v) : ∀ {ns : List Str} {ps : List PV} {gs : List V}, RepL G r H ps gs → ns.length = ps.length →
    ∃ hs, L2.putF f v (ns.zip gs) = (putP f p ns ps).1.zip hs ∧ RepL G r H (putP f p ns ps).2 hs ∧ (putP f p ns ps).1.length = (putP f p ns ps).2.length
  | [], ps, gs, l, hl => by
    have : ps = [] := List.eq_nil_of_length_eq_zero hl.symm
    subst this
    exact ⟨[v], rfl, RepL.cons k RepL.nil, rfl⟩
  | n :: ns, [], _, _, hl => by simp at hl
  | n :: ns, q :: qs, gs, l, hl => by
    simp only [RepL] at l
    obtain ⟨w, ws, rfl, a, b⟩ := l
    unfold putP
    rw [List.zip_cons_cons]
    unfold L2.putF
    by_cases e : n = f
    · rw [if_pos e, if_pos e]
      exact ⟨v :: ws, rfl, RepL.cons k b, by simpa using hl⟩
    · rw [if_neg e, if_neg e]
      obtain ⟨hs, h1, h2, h3⟩ := putP_ok k b (by simpa using hl)
      exact ⟨w :: hs, by rw [h1]; rfl, RepL.cons a h2, by simp [h3]⟩
def setF (c f : Str) (d v : DE) : DS := fun env st => (tagE env (v env st)).bind fun q st => (tagE env (d env st)).bind fun p st => match p with
  | .loc l => match st[l]? with
    | some (.ins c' ns fs) => if c' = c ∧ ns.length < 1000 then .ok (.nx env) (st.set l (.ins c' (putP f q ns fs).1 (putP f q ns fs).2)) else .stuck
    | _ => .stuck
  | _ => .stuck
theorem ss_fld {o value : Expr} {to tv : TE} {d v : DE} {c f : Str} {pos pos' : Pos} (F : FldF (gc X) c f) (ho : SE X W o to d) (hv : SE X W value tv v) (hs : swapsWith value (some (.Attribute o f pos')) pos.line X.env = pure false := by rfl) :
    SS X W (.Assign [.Attribute o f pos'] value pos) (sFld X.K to tv f) (setF c f d v) := by
  refine ⟨ps_fld ho.pe hv.pe hs, fun r s H env st D E R h => ?_⟩
  refine hv.so r s H env st _ E R ((PostS.bind E h).imp fun q st1 r1 H1 t1 R1 h1 y hy => ?_)
  have E1 := E.step t1
  refine ho.so r1 s H1 env st1 _ E1 R1 ((PostS.bind E1 h1).imp fun p st2 r2 H2 t2 R2 h2 x hx => ?_)
  split at h2
  · rename_i l
    split at h2
    · rename_i c' ns fs hl
      split at h2
      · rename_i hc
        obtain ⟨hc, hn⟩ := hc
        subst hc
        obtain ⟨a, rfl, ha, C, dx, gs, m, ea, z, lr⟩ := loc_ok R2 hx hl rfl
        have hy2 := Rep.step t2 _ _ hy
        obtain ⟨hs', e1, l2, l3⟩ := putP_ok (f := f) hy2 lr z
        refine ⟨a, C, dx, _, rfl, ea, F.cls C m, F.no C m, by rw [List.length_zip]; omega, ?_⟩
        rw [e1]
        have S : Step r2 H2 r2 (upd H2 a (.ins C dx ((putP f q ns fs).1.zip hs'))) := by
          refine ⟨fun b u n e => ?_, fun b e => ?_, Nat.le_refl _, fun _ _ _ h => h, fun l a h e => absurd (lt_of_get e) (Nat.not_lt.mpr h), rfl⟩
          · rw [upd_ne (fun z => n (by subst z; exact live_at.mpr ⟨l, ha⟩))]; exact e
          · unfold upd; split
            · exact fun y => by cases y
            · exact e
        obtain ⟨S', R'⟩ := R2.write (c := .ins c' (putP f q ns fs).1 (putP f q ns fs).2) ha ⟨C, dx, hs', m, upd_same, l3, RepL.step S _ _ l2⟩
        exact h2 r2 _ s S' R' ((E1.step t2).step S')
      · exact h2.elim
    · exact h2.elim
  · exact h2.elim

/-! ### instances made -/
theorem run_makeA {pins : List (Addr × Obj)} {s : Shared} {sg : St} {H : Hp} {k : Nat} {C f : Addr} {sp : Sp} {us : List Value} {vs : List V} {Q : VK} {E : XK} (M : Mk X.K C f) (F : FnR X.prog X.w X.K X.mg X.base (L2N.CX X.prog X.w) k f sp) (hr : Room (k + 1) X.A)
    (hx : L2.PassesAt (L2N.CX X.prog X.w) X sg E) (I : Inv X pins sg H s) (r : Vals vs us)
    (h : ∀ x dx, H x = none → H dx = none → dx ≠ x → sp (.ref x :: vs) (upd (upd H dx (.own x)) x (.ins C dx [])) (fun v H2 => v = .non ∧ Q (.ref x) H2) E) :
    wpAny (model X.prog X.w) X.A (call (.ref C) us) (EP X pins sg Q) X.xe s := by
  have hq := h (s.heap.objs.size + 1) s.heap.objs.size (I.hok.fresh (Nat.le_succ _)) (I.hok.fresh (Nat.le_refl _)) (Nat.ne_of_lt (Nat.lt_succ_self _))
  have I2 := Inv.made (C := C) I
  have e1 : Env0 X.prog X.w X.K X.mg X.base (X.A.under (.builtin "type.__call__" ⟨.ref C :: us, []⟩)) X.stack _ _ := I2.env0.make C us []
  refine wpAny_call (make_map (f := f) I.kIn M.makes M.init (beq_iff_eq.mp M.fn) (codeAny_mono (F _ X.stack _ _ (Value.ref (s.heap.objs.size + 1) :: us) (V.ref (s.heap.objs.size + 1) :: vs) _ E (hr.make C us []) e1 (.cons rfl r) hq) fun rr s' hq' => ?_))
  cases rr with
  | error e => exact hx pins _ _ e s' I2 hq'
  | ok fl =>
    cases fl with
    | ret u =>
      obtain ⟨v, H', I3, rv, ev, q3⟩ := I2.after hq'
      subst ev
      exact ⟨rv, ⟨V.ref (s.heap.objs.size + 1), H', I3, rfl, q3⟩⟩
    | next => exact False.elim hq'
    | brk => exact False.elim hq'
    | cont => exact False.elim hq'
def tMakeA (C : Addr) (sp : Sp) (E : St → XK) (t : TA) : TE := fun s H Q => t s H fun vs H1 => ∀ x dx, H1 x = none → H1 dx = none → dx ≠ x →
  sp (.ref x :: vs) (upd (upd H1 dx (.own x)) x (.ins C dx [])) (fun v H2 => v = .non ∧ Q (.ref x) H2) (E s)
theorem pe_makeA {k : Nat} {C f : Addr} {sp : Sp} {E : St → XK} {x : Str} {p pos : Pos} {e : Expr} {es : List Expr} {t : TA} (M : Mk X.K C f) (F : FnR X.prog X.w X.K X.mg X.base (L2N.CX X.prog X.w) k f sp) (hr : Room (k + 1) X.A) (hm : X.mg x = some (.ref C))
    (hx : ∀ s, L2.PassesAt (L2N.CX X.prog X.w) X s (E s)) (ha : PA X (e :: es) t) (hg : Gl X x := by rfl) (hdb : (x == ("__debug__" : Str)) = false := by decide) (he : starEach (e :: es) X.env = (false, eval e X.env) :: starEach es X.env := by rfl)
    (hpl : (backTo pos (starEach es X.env)).any (·.1) = false := by rfl) : PE X (.Call (.Name x p) (e :: es) [] pos) (tMakeA C sp E t) := by
  refine ⟨fun pins s sg H Q I h => wpAny_Call_Name_kw (ld_glob I hg hm ?_ hdb)⟩
  refine PySem.W.callWith_K (h₀ := X.base) I.ok.mod.kin M.kp (thn (ha.run pos pins s sg H _ I h) fun us s1 ⟨vs, H1, I1, rv, q⟩ => ⟨I1.kIn, ?_⟩) he hpl
  exact run_makeA M F hr (hx sg) I1 rv q
/-- a new instance, its __init__ run, then frozen (its place given up) -/
def makeF (c : Str) (F : List PV → M PV) (ps : List PV) : M PV := fun st => match F (.loc st.length :: ps) (st ++ [.ins c [] []]) with
  | .ok .non st' => match st'[st.length]? with
    | some (.ins c' ns fs) => if c' = c then (match subL (lower st.length) fs with
      | some _ => if (st'.take st.length).all (belowC st.length) = true ∧ ns.length = fs.length then .ok (.obj c ns fs) (st'.take st.length) else .stuck
      | none => .stuck) else .stuck
    | _ => .stuck
  | .exc e v st' => leaveX st.length e v st'
  | _ => .stuck
theorem make_post {G : GC} {C : Addr} {c : Str} {n : Nat} {F : List PV → M PV} {r : Loc} {H : Hp} {st : Store} {ps : List PV} {vs : List V} {Q : VK} {E : XK} (hm : G.mg c = some (.ref C)) (hn : ps.length + 1 = n) (l : RepL G r H ps vs) (R : SRel G r H st)
    (h : Post G E r H (makeF c F ps st) (okE G Q)) : ∀ x dx, H x = none → H dx = none → dx ≠ x → SpF G n F (.ref x :: vs) (upd (upd H dx (.own x)) x (.ins C dx [])) (fun v H2 => v = .non ∧ Q (.ref x) H2) E := by
  intro x dx nx nd ne
  have nx1 : upd H dx (.own x) x = none := by rw [upd_ne (Ne.symm ne)]; exact nx
  have S1 : Step r H r (upd H dx (.own x)) := Step.new1 nd
  have R1 : SRel G r (upd H dx (.own x)) st := R.new1 nd
  have S2 : Step r (upd H dx (.own x)) (r.more x) (upd (upd H dx (.own x)) x (.ins C dx [])) := Step.more nx1
  have R2 : SRel G (r.more x) (upd (upd H dx (.own x)) x (.ins C dx [])) (st ++ [.ins c [] []]) := R1.alloc nx1 ⟨C, dx, [], hm, upd_same, rfl, RepL.nil⟩
  have S := S1.trans S2
  have hl : r.s.length = st.length := R.len
  refine ⟨by simp [← l.len]; omega, r.more x, .loc st.length :: ps, st ++ [.ins c [] []], RepL.cons ?_ (RepL.step S _ _ l), R2, ?_⟩
  · simp only [Rep]
    refine ⟨by simp [Loc.more, hl], fun a e => ?_⟩
    rw [← hl] at e
    simp [Loc.more] at e
    rw [e]
  unfold makeF at h
  cases q : F (.loc st.length :: ps) (st ++ [.ins c [] []]) with
  | stuck => rw [q] at h; exact h
  | exc e v st' =>
    rw [q] at h
    intro r' H' cls dd t R' xx
    dsimp only at h
    unfold leaveX at h
    have hn' : st.length ≤ st'.length := by
      rw [← hl, ← R'.len]; exact Nat.le_trans S.len t.len
    split at h
    · rename_i p' hp
      split at h
      · rename_i hb
        refine h (r'.cut st.length) H' cls dd (by rw [← hl]; exact (S.trans t).cut) (R'.cut hn' hb) ?_
        obtain ⟨C', m, e1, y⟩ := xx
        refine ⟨C', m, e1, y.imp id fun ⟨d, gs, e2, e3, n3, e4, l3⟩ => ⟨d, gs, e2, e3, av_cut n3, e4, ?_⟩⟩
        have := subL_rep (fun a => av_cut) (lower_rep (by rw [R'.len]; exact hn')) e.fs p' gs l3 hp
        rw [subL_lower e.fs p' hp] at this
        exact this
      · exact h.elim
    · exact h.elim
  | ok p st' =>
    rw [q] at h
    intro r' H' t R' v k
    have hn' : st.length ≤ st'.length := by
      rw [← hl, ← R'.len]; exact Nat.le_trans S.len t.len
    cases p with
    | non =>
      simp only [Rep] at k
      refine ⟨k, ?_⟩
      dsimp only at h
      split at h
      · rename_i c' ns fs hs
        split at h
        · rename_i hc
          subst hc
          split at h
          · rename_i fs' hf
            split at h
            · rename_i hb
              obtain ⟨hb, hlen⟩ := hb
              obtain ⟨a, ha⟩ := R'.has _ _ hs rfl
              obtain ⟨c2, hc2, ok⟩ := R'.at_ _ a ha
              rw [hs] at hc2; cases hc2
              obtain ⟨C', dx', gs, m, ea, z, lr⟩ := ok
              have hax : a = x := by
                have o := t.old st.length a (by simp [Loc.more, hl]) ha
                rw [← hl] at o
                simp [Loc.more] at o
                exact o.symm
              subst hax
              have hle : st.length ≤ r'.s.length := by rw [R'.len]; exact hn'
              refine h (r'.cut st.length) H' (by rw [← hl]; exact (S.trans t).cut) (R'.cut hn' hb) (.ref a) ?_
              have l2 := subL_rep (fun a => av_cut) (lower_rep hle) fs fs' gs lr hf
              rw [subL_lower fs fs' hf] at l2
              simp only [Rep]
              refine ⟨a, C', dx', gs, rfl, m, ea, hlen, fun y => ?_, l2⟩
              rcases y with y | y
              · obtain ⟨l', e'⟩ := live_at.mp y
                have := R'.inj l' st.length a (cut_at e').2 ha
                have := (cut_at e').1
                omega
              · exact R'.dis a (live_at.mpr ⟨_, ha⟩) y
            · exact h.elim
          · exact h.elim
        · exact h.elim
      · exact h.elim
    | _ => exact h.elim
def callM (n : Nat) (c : Str) (F : List PV → M PV) (ds : PEnv → M (List PV)) : DE := fun env st => (ds env st).bind fun ps st => if ps.length + 1 = n then makeF c F ps st else .stuck
theorem se_make {k n : Nat} {C f : Addr} {F : List PV → M PV} {x : Str} {p pos : Pos} {e : Expr} {es : List Expr} {t : TA} {da : PEnv → M (List PV)} (M : Mk X.K C f) (hF : FnP X.prog X.w (gc X) X.base k f n F) (hr : Room (k + 1) X.A) (hm : X.mg x = some (.ref C))
    (tk : L2N.Takes X W) (ha : SA X W (e :: es) t da) (hg : Gl X x := by rfl) (hdb : (x == ("__debug__" : Str)) = false := by decide) (he : starEach (e :: es) X.env = (false, eval e X.env) :: starEach es X.env := by rfl)
    (hpl : (backTo pos (starEach es X.env)).any (·.1) = false := by rfl) : SE X W (.Call (.Name x p) (e :: es) [] pos) (tMakeA C (SpF (gc X) n F) (fun s => WE W s) t) (callM n x F da) := by
  refine ⟨pe_makeA M hF hr hm (fun s => L2N.passAt tk s) ha.pa hg hdb he hpl, fun r s H env st Q E R h => ?_⟩
  refine ha.so r s H env st _ E R (h.bind.imp fun ps st1 r1 H1 t1 R1 h1 vs hv => ?_)
  split at h1
  · rename_i hl
    exact make_post hm hl hv R1 h1
  · exact h1.elim

/-! ### properties, len, calls, in, ~ of instances -/
/-- the value of an instance's own method -/
def callO (n : Nat) (c : Str) (F : List PV → M PV) (p : PV) (ps : List PV) : M PV := fun st => match insOf st p with
  | some (c', _, _) => if c' = c ∧ ps.length + 1 = n then F (p :: ps) st else .stuck
  | none => .stuck
theorem callO_ok {G : GC} {E : XK} {n : Nat} {c : Str} {F : List PV → M PV} {r : Loc} {H : Hp} {st : Store} {p : PV} {x : V} {ps : List PV} {vs : List V} {Q : VK} (R : SRel G r H st) (hx : Rep G r H p x) (l : RepL G r H ps vs) (h : Post G E r H (callO n c F p ps st) (okE G Q)) :
    ∃ a C dx fs, x = .ref a ∧ G.mg c = some (.ref C) ∧ H a = some (.ins C dx fs) ∧ SpF G n F (x :: vs) H Q E := by
  unfold callO at h
  split at h
  · rename_i c' ns fs hi
    split at h
    · rename_i hc
      obtain ⟨hc, hn⟩ := hc
      subst hc
      obtain ⟨a, C, dx, gs, e, m, ea, z, _⟩ := insOf_ok R hx hi
      exact ⟨a, C, dx, _, e, m, ea, SpF.mk (by simpa using hn) (RepL.cons hx l) R h⟩
    · exact h.elim
  · exact h.elim
/-- what the text must tell of a property -/
structure PropF (G : GC) (c f : Str) (g : Addr) : Prop where
  ex : ∀ C, G.mg c = some (.ref C) → Cls G.K C ∧ ∃ p, PropOf G.K C f p g
def tPropA (G : GC) (c : Str) (n : Nat) (F : List PV → M PV) (ta : TE) : TE := fun s H Q => ta s H fun x H1 => ∃ a C dx fs, x = .ref a ∧ G.mg c = some (.ref C) ∧ H1 a = some (.ins C dx fs) ∧ SpF G n F [x] H1 Q (fun _ _ _ => False)
theorem se_prop {k n : Nat} {g : Addr} {F : List PV → M PV} {c f : Str} {e : Expr} {te : TE} {d : DE} {pos : Pos} (P : PropF (gc X) c f g) (hF : FnP X.prog X.w (gc X) X.base k g n F) (hr : Room (k + 1) X.A) (he : SE X W e te d)
    (hab : attributeBase e f X.env (eval e X.env) = eval e X.env := by rfl) : SE X W (.Attribute e f pos) (tPropA (gc X) c n F te) (fun env st => (d env st).bind fun p st => noX (callO n c F p [] st)) := by
  refine ⟨⟨fun pins s sg H Q I h => ?_⟩, fun r s H env st Q E R h => ?_⟩
  · refine attr_of hab (thn (he.pe.run pins s sg H _ I h) fun u s1 ⟨x, H1, I1, rx, a, C, dx, fs, ex, m, ea, q⟩ => ?_)
    subst ex
    obtain rfl : u = Value.ref a := rx
    obtain ⟨cl, p, hp⟩ := P.ex C m
    obtain ⟨mA, O, _, _, _, _⟩ := ins_get I1.hok ea
    obtain ⟨od, J, _⟩ := O.look
    obtain ⟨rest, hrec⟩ := hp.rec_
    have I2 := I1.tok (s1.toks + 1)
    have hc : (PySem.W.clsIn X.K C).isSome = true := by
      obtain ⟨cd, hc, _⟩ := PySem.W.any_some cl.hd
      rw [hc]; rfl
    refine PySem.W.get_bind I1.kIn J (PySem.W.plainGet_of (cl.get f)).1 (PySem.W.findObj_data hc hp.at_ hp.get hp.tak) (PySem.W.plainGet_of (cl.get f)).2 (wpAny_call (PySem.W.prop_get (s := { s1 with toks := s1.toks + 1 }) I1.kIn hrec ?_))
    refine codeAny_mono (hF X.A.in1 X.stack { s1 with toks := s1.toks + 1 } H1 [.ref a] [.ref a] Q _ hr.in1 I2.env0.in1 (.cons rfl .nil) q) fun rr s' hq => ?_
    cases rr with
    | error er =>
      obtain ⟨_, _, _, _, _, _, _, _, _, _, _, _, z⟩ := hq
      exact z.elim
    | ok fl =>
      cases fl with
      | ret u =>
        obtain ⟨v, H', I3, rv, q3⟩ := I2.after hq
        show wpAny _ _ (handedOut u) _ _ _
        rw [PySem.W.handedOut_of (handed_of rv)]
        exact wpAny_pure ⟨v, H', I3, rv, q3⟩
      | next => exact False.elim hq
      | brk => exact False.elim hq
      | cont => exact False.elim hq
  · refine he.so r s H env st _ E R (h.bind.imp fun p st1 r1 H1 t1 R1 h1 x hx => ?_)
    exact callO_ok R1 hx RepL.nil (Post.noX h1)
/-- what the text must tell of an own special method -/
structure SpecF (G : GC) (c nm : Str) (g : Addr) : Prop where
  at_ : ∀ C, G.mg c = some (.ref C) → PySem.W.findIn G.K (.ref C) nm = some (some (.ref g))
  fn : PySem.W.isFn G.K (.ref g) = true
/-- ~ -/
def rInv (G : GC) (c : Str) (n : Nat) (F : List PV → M PV) : V → Hp → VK → Prop := fun x H Q => ∃ a C dx fs, x = .ref a ∧ G.mg c = some (.ref C) ∧ H a = some (.ins C dx fs) ∧ SpF G n F [x] H Q (fun _ _ _ => False)
theorem un_invO {k n : Nat} {g : Addr} {F : List PV → M PV} {c : Str} (S : SpecF (gc X) c "__invert__" g) (hF : FnP X.prog X.w (gc X) X.base k g n F) (hr : Room k X.A) : UnR X (unaryOp .Invert) (rInv (gc X) c n F) := by
  intro pins s sg H x v Q I rx h
  obtain ⟨a, C, dx, fs, rfl, m, ea, q⟩ := h
  obtain rfl : v = Value.ref a := rx
  obtain ⟨mA, O, _, _, _, _⟩ := ins_get I.hok ea
  obtain ⟨od, J, _⟩ := O.look
  obtain ⟨m', hFr⟩ := I.fr
  refine PySem.W.ksp_inv hFr I.ok.mod.kin J (S.at_ C m) S.fn ?_
  refine thn (run_pos (X := X.nox) (W := WF) (sg := sg) (Q := Q) hF hr (fun u s' z => by
    obtain ⟨_, _, _, _, _, _, _, _, _, _, _, _, _, _, _, _, w⟩ := z
    exact w.elim) (I.wish _) (.cons (show RelV (V.ref a) (Value.ref a) from rfl) .nil) q |> fun z => wpAny_mono z (fun _ _ y => y) fun _ _ y => y.elim) fun u s' ⟨w, H', I', rw', q'⟩ => ⟨w, H', I'.unwish, rw', q'⟩
theorem se_inv {k n : Nat} {g : Addr} {F : List PV → M PV} {c : Str} {e : Expr} {te : TE} {d : DE} {pos : Pos} (S : SpecF (gc X) c "__invert__" g) (hF : FnP X.prog X.w (gc X) X.base k g n F) (hr : Room k X.A) (he : SE X W e te d) :
    SE X W (.UnaryOp .Invert e pos) (tUn (rInv (gc X) c n F) te) (fun env st => (d env st).bind fun p st => noX (callO n c F p [] st)) :=
  ⟨pe_un (un_invO S hF hr) he.pe, fun r s H env st Q E R h => he.so r s H env st _ E R (h.bind.imp fun p st1 r1 H1 t1 R1 h1 x hx => callO_ok R1 hx RepL.nil (Post.noX h1))⟩

end CD

set_option Elab.async false
set_option linter.all false
set_option maxRecDepth 100000
set_option maxHeartbeats 2000000
namespace CD
open PySem PySem.Spec PyProof.Rows L2 RZ StX ClX
variable {X : Cx} {W : WX}

/-! ### * and ** -/
theorem tuple_mulS (l : Addr) (items : Array Value) (n : Nat) (dd : Option Addr) (sl : Array (Option Value)) (x : Int) (u : Tok) (c0 : (decide (x < -(2 ^ 63)) || decide (x ≥ 2 ^ 63)) = false) (c1 : (items.isEmpty || x == 1) = true) :
    Meets (Builtin.«tuple.__mul__» ⟨[.ref l, .int x u], []⟩) (fun _ R s => s.heap.get? l = some { cls := .type "tuple", dict := dd, data := .seq items n, slots := sl } ∧ R (.ok (.ret (Value.ref l))) s) :=
  .of_wp fun prog w A R s h => by
    obtain ⟨hp, g, d, tk, os⟩ := s
    obtain ⟨hl, h⟩ := h
    have f1 := AutoSeq1.idx_int
    wp_walk using wpAny_loadPart' hl
    repeat (first
      | (refine wpAny_ite_false (decide_eq_false (by rw [c0]; exact Bool.false_ne_true)) ?_; wp_walk using wpAny_loadPart' hl)
      | (refine wpAny_ite_true (decide_eq_true c1) ?_; wp_walk using wpAny_loadPart' hl))
    exact ⟨_, rfl, h⟩
theorem tuple_mul0 (l : Addr) (items : Array Value) (n : Nat) (dd : Option Addr) (sl : Array (Option Value)) (x : Int) (u : Tok) (c0 : (decide (x < -(2 ^ 63)) || decide (x ≥ 2 ^ 63)) = false) (c1 : (items.isEmpty || x == 1) = false) (c2 : (decide (x ≤ 0) || items.isEmpty) = true) :
    Meets (Builtin.«tuple.__mul__» ⟨[.ref l, .int x u], []⟩) (fun _ R s => s.heap.get? l = some { cls := .type "tuple", dict := dd, data := .seq items n, slots := sl } ∧
      R (.ok (.ret (Value.ref s.heap.objs.size))) { s with heap := s.heap.push { cls := Value.type "tuple", data := Data.seq #[] }, toks := s.toks }) :=
  .of_wp fun prog w A R s h => by
    obtain ⟨hp, g, d, tk, os⟩ := s
    obtain ⟨hl, h⟩ := h
    have f1 := AutoSeq1.idx_int
    wp_walk using wpAny_loadPart' hl
    repeat (first
      | (refine wpAny_ite_false (decide_eq_false (by rw [c0]; exact Bool.false_ne_true)) ?_; wp_walk using wpAny_loadPart' hl)
      | (refine wpAny_ite_false (decide_eq_false (by rw [c1]; exact Bool.false_ne_true)) ?_; wp_walk using wpAny_loadPart' hl)
      | (refine wpAny_ite_true (decide_eq_true c2) ?_; wp_walk using wpAny_loadPart' hl))
    exact ⟨_, rfl, h⟩
def rRepS (K : PySem.W.Frag) : R2 := fun x y H Q => ∃ l k xs, x = .ref l ∧ y = .int k ∧ SqT K H l xs ∧ -1000 ≤ k ∧ k ≤ 1000 ∧ (xs = [] ∨ k = 1) ∧ Q (.ref l) H
def rRep0 (K : PySem.W.Frag) : R2 := fun x y H Q => ∃ l k xs, x = .ref l ∧ y = .int k ∧ SqT K H l xs ∧ xs ≠ [] ∧ -1000 ≤ k ∧ k ≤ 0 ∧ ∀ p, H p = none → Q (.ref p) (upd H p (.tup []))
theorem op_repS : OpR X (binaryOp .Mult) (rRepS X.K) := by
  intro pins s σ H x y v u Q I rx ry h
  obtain ⟨l, k, xs, rfl, rfl, hT, h1, h2, hne, q⟩ := h
  cases rx
  obtain ⟨t, rfl⟩ := ry
  obtain ⟨its, r, ⟨⟨cls, dd, data, sl⟩, ho, hc, n, hd⟩, hs⟩ := I.tuple hT
  simp only at hc hd
  subst hc hd
  have hle : its.length = xs.length := r.length.symm
  have c0 : (decide (k < -(2 ^ 63)) || decide (k ≥ 2 ^ 63)) = false := by
    rw [decide_eq_false (by omega), decide_eq_false (by omega)] <;> rfl
  have c1 : (its.toArray.isEmpty || k == 1) = true := by
    rcases hne with e | e
    · subst e
      have : its = [] := List.eq_nil_of_length_eq_zero hle
      subst this; rfl
    · subst e; simp
  refine wpAny_binaryOp_repeat_ref (T := "tuple") (U := "int") (by decide) ⟨_, ho, rfl⟩ (fun s' => typeIs_int s' k t) noFill_tuple_mul F.fills_int_mul F.slot_int_rmul repeat_tuple F.slot_int_index.lookup
    (call_meets F.slot_int_rmul (typeIs_int s k t) F.entry_int_rmul (F.args_int_rmul_2 _ _) (int_rmul_tuple k t l its.toArray n dd sl)
      ⟨ho, rfl, ⟨_, ho, rfl⟩, call_meets F.slot_tuple_mul ⟨_, ho, rfl⟩ F.entry_tuple_mul (F.args_tuple_mul_2 _ _) (tuple_mulS l its.toArray n dd sl k t c0 c1) ⟨ho, ?_⟩⟩)
  exact ⟨.ref l, H, I, rfl, q⟩
theorem op_rep0 : OpR X (binaryOp .Mult) (rRep0 X.K) := by
  intro pins s σ H x y v u Q I rx ry h
  obtain ⟨l, k, xs, rfl, rfl, hT, hne, h1, h2, q⟩ := h
  cases rx
  obtain ⟨t, rfl⟩ := ry
  obtain ⟨its, r, ⟨⟨cls, dd, data, sl⟩, ho, hc, n, hd⟩, hs⟩ := I.tuple hT
  simp only at hc hd
  subst hc hd
  have hle : its.length = xs.length := r.length.symm
  have hn : its ≠ [] := fun e => hne (by
    rw [e] at hle
    exact List.eq_nil_of_length_eq_zero hle.symm)
  have hi : its.toArray.isEmpty = false := by
    cases its with
    | nil => exact absurd rfl hn
    | cons a b => rfl
  have c0 : (decide (k < -(2 ^ 63)) || decide (k ≥ 2 ^ 63)) = false := by
    rw [decide_eq_false (by omega), decide_eq_false (by omega)] <;> rfl
  have c1 : (its.toArray.isEmpty || k == 1) = false := by
    rw [hi, Bool.false_or]
    exact beq_eq_false_iff_ne.mpr (by omega)
  have c2 : (decide (k ≤ 0) || its.toArray.isEmpty) = true := by
    rw [decide_eq_true h2]; rfl
  refine wpAny_binaryOp_repeat_ref (T := "tuple") (U := "int") (by decide) ⟨_, ho, rfl⟩ (fun s' => typeIs_int s' k t) noFill_tuple_mul F.fills_int_mul F.slot_int_rmul repeat_tuple F.slot_int_index.lookup
    (call_meets F.slot_int_rmul (typeIs_int s k t) F.entry_int_rmul (F.args_int_rmul_2 _ _) (int_rmul_tuple k t l its.toArray n dd sl)
      ⟨ho, rfl, ⟨_, ho, rfl⟩, call_meets F.slot_tuple_mul ⟨_, ho, rfl⟩ F.entry_tuple_mul (F.args_tuple_mul_2 _ _) (tuple_mul0 l its.toArray n dd sl k t c0 c1 c2) ⟨ho, ?_⟩⟩)
  refine ⟨.ref s.heap.objs.size, _, I.laid (t' := s.toks) (o := .tup []) (fun b ob q => Heap.get?_push_of_some _ q) (Nat.le_refl _) ?_, rfl, q _ (I.hok.fresh (Nat.le_refl _))⟩
  exact ⟨Nat.zero_le _, _, Paired.nil, IsTup.new _ _⟩
def mulT : PV → PV → M PV
  | .tup xs, .int k => iteM (-1000 ≤ k ∧ k ≤ 1000 ∧ xs.length ≤ 1000) (okM (.tup (List.replicate k.toNat xs).flatten))
  | _, _ => nope
def mulL : PV → PV → M PV := fun p q st => match lstOf st p, q with
  | some xs, .int k => iteM (-(2 ^ 63) ≤ k ∧ k < 2 ^ 63 ∧ xs.length * k.toNat ≤ sizeLine) (okM (.lst (List.replicate k.toNat xs).flatten)) st
  | _, _ => .stuck
/-- a list that stays a place -/
def mulLM : PV → PV → M PV := fun p q st => match lstOf st p, q with
  | some xs, .int k => iteM (-(2 ^ 63) ≤ k ∧ k < 2 ^ 63 ∧ xs.length * k.toNat ≤ sizeLine) (allocL (List.replicate k.toNat xs).flatten) st
  | _, _ => .stuck
theorem flat_nil {α : Type} (n : Nat) : (List.replicate n ([] : List α)).flatten = [] := by induction n with
  | zero => rfl
  | succ n ih => rw [List.replicate_succ, List.flatten_cons, ih]; rfl
theorem flat_len {α : Type} (n : Nat) (xs : List α) : (List.replicate n xs).flatten.length = n * xs.length := by induction n with
  | zero => simp
  | succ n ih => rw [List.replicate_succ, List.flatten_cons, List.length_append, ih, Nat.succ_mul, Nat.add_comm]
theorem RepL.rep {G : GC} {r : Loc} {H : Hp} {xs : List PV} {vs : List V} (l : RepL G r H xs vs) : ∀ n : Nat, RepL G r H (List.replicate n xs).flatten (List.replicate n vs).flatten
  | 0 => RepL.nil
  | n + 1 => by
    rw [List.replicate_succ, List.replicate_succ, List.flatten_cons, List.flatten_cons]
    exact l.append (RepL.rep l n)
theorem sop_mulT {G : GC} : SOp G (fun x y H Q => rRepT G.K x y H Q ∨ rRepS G.K x y H Q ∨ rRep0 G.K x y H Q) mulT := by
  intro r H st p q x y E Q R hx hy h
  cases p with
  | tup xs =>
    cases q with
    | int k =>
      obtain ⟨⟨h1, h2, h3⟩, h⟩ := Post.iteM h
      obtain ⟨a, vs, e, f, l⟩ := tupOf_ok hx rfl
      simp only [Rep] at hy
      subst hy e
      by_cases hs : vs = [] ∨ k = 1
      · refine .inr (.inl ⟨a, k, vs, rfl, rfl, f.sq, h1, h2, hs, ?_⟩)
        refine h r H Step.refl R _ ?_
        have : (List.replicate k.toNat xs).flatten = xs := by
          rcases hs with e | e
          · subst e
            have : xs = [] := List.eq_nil_of_length_eq_zero l.len
            subst this
            exact flat_nil _
          · subst e; simp
        rw [this]; exact hx
      · by_cases h0 : k ≤ 0
        · refine .inr (.inr ⟨a, k, vs, rfl, rfl, f.sq, fun z => hs (.inl z), h1, h0, fun p n => ?_⟩)
          have e : k.toNat = 0 := by omega
          rw [e] at h
          exact h r _ (Step.new1 n) (R.new1 n) _ (Rep.newTup R n RepL.nil)
        · refine .inl ⟨a, k, vs, rfl, rfl, f.sq, fun z => hs (.inl z), by omega, h2, by rw [← l.len]; exact h3, fun p n => ?_⟩
          exact h r _ (Step.new1 n) (R.new1 n) _ (Rep.newTup R n (l.rep _))
    | _ => exact h.elim
  | _ => exact h.elim
theorem sop_mulL {G : GC} : SOp G rRep mulL := by
  intro r H st p q x y E Q R hx hy h
  unfold mulL at h
  split at h
  · rename_i xs k hp
    obtain ⟨⟨h1, h2, h3⟩, h⟩ := Post.iteM h
    obtain ⟨a, vs, e, f, l⟩ := lstOf_ok R hx hp
    simp only [Rep] at hy
    subst hy e
    exact ⟨a, k, vs, rfl, rfl, f, h1, h2, by rw [← l.len]; exact h3, lst_ok R (l.rep _) h⟩
  · exact h.elim
theorem sop_mulLM {G : GC} : SOp G rRep mulLM := by
  intro r H st p q x y E Q R hx hy h
  unfold mulLM at h
  split at h
  · rename_i xs k hp
    obtain ⟨⟨h1, h2, h3⟩, h⟩ := Post.iteM h
    obtain ⟨a, vs, e, f, l⟩ := lstOf_ok R hx hp
    simp only [Rep] at hy
    subst hy e
    exact ⟨a, k, vs, rfl, rfl, f, h1, h2, by rw [← l.len]; exact h3, alloc_ok R (l.rep _) h⟩
  · exact h.elim
def isTI : PV → PV → Bool
  | .tup _, _ => true
  | _, _ => false
noncomputable def mulD : PV → PV → M PV := orM mulI (orM mulT mulL isTI) isInt2
noncomputable def mulDM : PV → PV → M PV := orM mulI (orM mulT mulLM isTI) isInt2
def rMul (K : PySem.W.Frag) : R2 := fun x y H Q => rI CMulX (fun i j => .int (i * j)) x y H Q ∨ (rRepT K x y H Q ∨ rRepS K x y H Q ∨ rRep0 K x y H Q) ∨ rRep x y H Q
theorem op_mulA : OpR X (binaryOp .Mult) (rMul X.K) := op_mulX.or ((op_repT.or (op_repS.or op_rep0)).or op_rep)
theorem se_mul {a b : Expr} {ta tb : TE} {da db : DE} {pos : Pos} (ha : SE X W a ta da) (hb : SE X W b tb db) : SE X W (.BinOp a .Mult b pos) (tOp (rMul X.K) ta tb) (d2 mulD da db) :=
  se_op op_mulA (SOp.or (sop_int fun _ _ _ _ => rep_int) (SOp.or sop_mulT sop_mulL)) ha hb
theorem se_mulM {a b : Expr} {ta tb : TE} {da db : DE} {pos : Pos} (ha : SE X W a ta da) (hb : SE X W b tb db) : SE X W (.BinOp a .Mult b pos) (tOp (rMul X.K) ta tb) (d2 mulDM da db) :=
  se_op op_mulA (SOp.or (sop_int fun _ _ _ _ => rep_int) (SOp.or sop_mulT sop_mulLM)) ha hb
def CPowW (i j : Int) : Prop := 0 ≤ j ∧ j ≤ 100 ∧ i.natAbs < 2 ^ 1000
instance (i j : Int) : Decidable (CPowW i j) := by unfold CPowW; infer_instance
theorem op_powW : OpR X (binaryOp .Pow) (rI CPowW fun i j => .int (i ^ j.toNat)) := opI fun i j _ _ _ _ _ hc q => by
  refine pow_int hc.1 ?_ q
  have h := PySem.Flt.log2_lt_of (by decide) hc.2.2
  have h1 : Builtin.Int.intBits i ≤ 1001 := by unfold Builtin.Int.intBits; split <;> omega
  have h2 : (Builtin.Int.intBits i : Int) * j ≤ 1001 * 100 := Int.mul_le_mul (by omega) hc.2.1 hc.1 (by omega)
  have h3 : (2 : Int) ^ 27 = 134217728 := by decide
  omega
def powD : PV → PV → M PV := int2 CPowW fun i j => .int (i ^ j.toNat)
theorem se_pow {a b : Expr} {ta tb : TE} {da db : DE} {pos : Pos} (ha : SE X W a ta da) (hb : SE X W b tb db) : SE X W (.BinOp a .Pow b pos) (tOp (rI CPowW fun i j => .int (i ^ j.toNat)) ta tb) (d2 powD da db) :=
  se_op op_powW (sop_int fun _ _ _ _ => rep_int) ha hb
/-! ### own len, calls, in -/
def LenOf (p : PV) : Option Int := match p with
  | .int i => some i
  | _ => none
def LenFit (i : Int) : Prop := 0 ≤ i ∧ i < 2 ^ 63
noncomputable instance (i : Int) : Decidable (LenFit i) := Classical.propDecidable _
noncomputable def lenOF (n : Nat) (c : Str) (F : List PV → M PV) : List PV → M PV := fun ps st => match ps with
  | [p] => match insOf st p with
    | some _ => (noX (callO n c F p [] st)).bind fun q st => match q with
      | .int i => iteM (LenFit i) (okM (.int i)) st
      | _ => .stuck
    | none => lenF [p] st
  | _ => .stuck
/-- an own method is run, nothing raised -/
def rOwn1 (G : GC) (c : Str) (n : Nat) (F : List PV → M PV) (x : V) (vs : List V) (H : Hp) (Q : VK) : Prop := ∃ a C dx fs, x = .ref a ∧ G.mg c = some (.ref C) ∧ H a = some (.ins C dx fs) ∧ SpF G n F (x :: vs) H Q (fun _ _ _ => False)
def rLenO (G : GC) (c : Str) (n : Nat) (F : List PV → M PV) : List V → Hp → VK → Prop := fun xs H Q => ∃ x, xs = [x] ∧ rOwn1 G c n F x [] H fun v H' => ∃ i : Int, v = .int i ∧ 0 ≤ i ∧ i < 2 ^ 63 ∧ Q (.int i) H'
theorem call_lenO {k n : Nat} {g : Addr} {F : List PV → M PV} {c : Str} (S : SpecF (gc X) c "__len__" g) (hF : FnP X.prog X.w (gc X) X.base k g n F) (hr : Room (k + 1) X.A) : CallR X (.builtin "len") (rLenO (gc X) c n F) := by
  intro pins s σ H xs us Q I r h
  obtain ⟨x, rfl, a, C, dx, fs, rfl, m, ea, q⟩ := h
  obtain ⟨u, rfl, ru⟩ := vals1 r
  cases (show u = Value.ref a from ru)
  obtain ⟨mA, O, _, _, _, _⟩ := ins_get I.hok ea
  obtain ⟨od, J, _⟩ := O.look
  obtain ⟨m', hFr⟩ := I.fr
  refine PySem.W.len_K hFr I.ok.mod.kin J (S.at_ C m) S.fn ?_
  refine wpAny_mono (run_pos1 (E' := X.xe) hF hr I (.cons (show RelV (V.ref a) (Value.ref a) from rfl) .nil) q) (fun u s' z => ?_) fun _ _ y => y
  obtain ⟨v, H', I', rv, i, rfl, h0, h1, q'⟩ := z
  obtain ⟨t, rfl⟩ := (show ∃ t, u = Value.int i t from rv)
  exact ⟨⟨h0, h1⟩, .int i, H', I'.tok _, ⟨_, rfl⟩, q'⟩
theorem scall_lenO {G : GC} {c : Str} {n : Nat} {F : List PV → M PV} : SCall G (fun xs H Q => rLenO G c n F xs H Q ∨ ∃ x n, xs = [x] ∧ LenV G.K x H n ∧ Q (.int n) H) (lenOF n c F) := by
  intro r H st ps xs E Q R hx h
  unfold lenOF at h
  split at h
  · rename_i p
    obtain ⟨v, rfl, k⟩ := rep1 hx
    split at h
    · refine .inl ⟨v, rfl, ?_⟩
      refine callO_ok (E := fun _ _ _ => False) R k RepL.nil (Post.noX h.bind |>.imp fun q st1 r1 H1 t1 R1 h1 w hw => ?_)
      split at h1
      · rename_i i
        obtain ⟨hi, h1⟩ := Post.iteM h1
        simp only [Rep] at hw
        subst hw
        exact ⟨i, rfl, hi.1, hi.2, h1 r1 H1 Step.refl R1 _ rep_int⟩
      · exact h1.elim
    · exact .inr (scall_len r H st [p] [v] E Q R hx h)
  · exact h.elim
/-- f(e, ..), f an instance -/
def callOD (n : Nat) (c : Str) (F : List PV → M PV) (d : DE) (ds : PEnv → M (List PV)) : DE := fun env st => (d env st).bind fun p st => match insOf st p with
  | some _ => (ds env st).bind fun ps st => callO n c F p ps st
  | none => .stuck
def tCallOA (G : GC) (c : Str) (n : Nat) (F : List PV → M PV) (E : St → XK) (tf : TE) (t : TA) : TE := fun σ H Q => tf σ H fun y H1 => ∃ a, y = .ref a ∧ t σ H1 fun vs H2 => ∃ C dx fs, G.mg c = some (.ref C) ∧ H2 a = some (.ins C dx fs) ∧ SpF G n F (.ref a :: vs) H2 Q (E σ)
structure CallF (G : GC) (c : Str) (g : Addr) : Prop where
  at_ : ∀ C, G.mg c = some (.ref C) → PySem.W.findIn G.K (.ref C) "__call__" = some (some (.ref g))
  fn : PySem.W.isFn G.K (.ref g) = true
  fi : PySem.W.fnIn G.K g = true
theorem se_callO {k n : Nat} {g : Addr} {F : List PV → M PV} {c : Str} {fe e : Expr} {es : List Expr} {tf : TE} {t : TA} {df : DE} {ds : PEnv → M (List PV)} {pos : Pos} (S : CallF (gc X) c g) (hF : FnP X.prog X.w (gc X) X.base k g n F) (hr : Room k X.A) (tk : L2N.Takes X W) (hf : SE X W fe tf df) (ha : SA X W (e :: es) t ds)
    (ht : eval (.Call fe (e :: es) [] pos) X.env = (do callWith pos (← eval fe X.env) [] (backTo pos (starEach (e :: es) X.env)) (backToKw pos (keywordEach [] X.env))) := by rfl)
    (he : starEach (e :: es) X.env = (false, eval e X.env) :: starEach es X.env := by rfl) (hpl : (backTo pos (starEach es X.env)).any (·.1) = false := by rfl) :
    SE X W (.Call fe (e :: es) [] pos) (tCallOA (gc X) c n F (fun s => WE W s) tf t) (callOD n c F df ds) := by
  refine ⟨⟨fun pins s σ H Q I h => ?_⟩, fun r s H env st Q E R h => ?_⟩
  · refine Call_ (thn (hf.pe.run pins s σ H _ I h) fun u s1 ⟨y, H1, I1, ry, a, ey, q⟩ => ?_) ht
    subst ey
    obtain rfl : u = Value.ref a := ry
    refine callO_with (thn (ha.pa.run pos pins s1 σ H1 _ I1 q) fun us s2 ⟨vs, H2, I2, rv, C, dx, fs, m, ea, q2⟩ => ?_) he hpl
    obtain ⟨mA, O, _, _, _, _⟩ := ins_get I2.hok ea
    obtain ⟨od, J, _⟩ := O.look
    refine ⟨⟨C, _, od, J, rfl⟩, wpAny_call (PySem.W.kco_code I2.kIn J rfl (S.at_ C m) S.fn S.fi ?_)⟩
    refine codeAny_mono (hF X.A X.stack s2 H2 (.ref a :: us) (.ref a :: vs) Q _ hr I2.env0 (.cons rfl rv) q2) fun rr s' hq => ?_
    cases rr with
    | error e => exact L2N.passAt tk σ pins H2 s2 e s' I2 hq
    | ok fl =>
      cases fl with
      | ret u => exact I2.after hq
      | next => exact False.elim hq
      | brk => exact False.elim hq
      | cont => exact False.elim hq
  · refine hf.so r s H env st _ E R (h.bind.imp fun p st1 r1 H1 t1 R1 h1 y hy => ?_)
    split at h1
    · rename_i z hi
      obtain ⟨c0, ns, fs⟩ := z
      obtain ⟨a, C, dx, gs, rfl, m, ea, z, l⟩ := insOf_ok R1 hy hi
      refine ⟨a, rfl, ?_⟩
      have E1 := E.step t1
      refine ha.so r1 s H1 env st1 _ E1 R1 (h1.bind.imp fun ps st2 r2 H2 t2 R2 h2 vs hv => ?_)
      obtain ⟨a', C, dx, fs, e, m, ea, q⟩ := callO_ok R2 (Rep.step t2 _ _ hy) hv h2
      cases e
      exact ⟨C, dx, fs, m, ea, q⟩
    · exact h1.elim
/-- x in y, y an instance -/
def rInO (G : GC) (c : Str) (n : Nat) (F : List PV → M PV) (neg : Bool) : R2 := fun x y H Q => rOwn1 G c n F y [x] H fun v H' => ∃ b : Bool, v = .bl b ∧ Q (.bl (b != neg)) H'
theorem op_inO {k n : Nat} {g : Addr} {F : List PV → M PV} {c : Str} (S : SpecF (gc X) c "__contains__" g) (hF : FnP X.prog X.w (gc X) X.base k g n F) (hr : Room k X.A) : OpR X (compareOp .In) (rInO (gc X) c n F false) := by
  intro pins s σ H x y v u Q I rx ry h
  obtain ⟨a, C, dx, fs, rfl, m, ea, q⟩ := h
  obtain rfl : u = Value.ref a := ry
  obtain ⟨mA, O, _, _, _, _⟩ := ins_get I.hok ea
  obtain ⟨od, J, _⟩ := O.look
  obtain ⟨m', hFr⟩ := I.fr
  refine PySem.W.in_K hFr I.ok.mod.kin J (S.at_ C m) S.fn ?_
  refine thn (run_pos (X := X.nox) (W := WF) (sg := σ) hF hr (fun u s' z => by
    obtain ⟨_, _, _, _, _, _, _, _, _, _, _, _, _, _, _, _, w⟩ := z
    exact w.elim) (I.wish _) (.cons (show RelV (V.ref a) (Value.ref a) from rfl) (.cons rx .nil)) q |> fun z => wpAny_mono z (fun _ _ y => y) fun _ _ y => y.elim) fun u s' ⟨w, H', I', rw', b, hb, q'⟩ => ?_
  subst hb
  obtain rfl : u = Value.bool b := rw'
  exact wpAny_truthy_bool ⟨.bl b, H', I'.unwish, rfl, by simpa using q'⟩
theorem op_notInO {k n : Nat} {g : Addr} {F : List PV → M PV} {c : Str} (S : SpecF (gc X) c "__contains__" g) (hF : FnP X.prog X.w (gc X) X.base k g n F) (hr : Room k X.A) : OpR X (compareOp .NotIn) (rInO (gc X) c n F true) := by
  intro pins s σ H x y v u Q I rx ry h
  obtain ⟨a, C, dx, fs, rfl, m, ea, q⟩ := h
  obtain rfl : u = Value.ref a := ry
  obtain ⟨mA, O, _, _, _, _⟩ := ins_get I.hok ea
  obtain ⟨od, J, _⟩ := O.look
  obtain ⟨m', hFr⟩ := I.fr
  refine PySem.W.notIn_K hFr I.ok.mod.kin J (S.at_ C m) S.fn ?_
  refine thn (run_pos (X := X.nox) (W := WF) (sg := σ) hF hr (fun u s' z => by
    obtain ⟨_, _, _, _, _, _, _, _, _, _, _, _, _, _, _, _, w⟩ := z
    exact w.elim) (I.wish _) (.cons (show RelV (V.ref a) (Value.ref a) from rfl) (.cons rx .nil)) q |> fun z => wpAny_mono z (fun _ _ y => y) fun _ _ y => y.elim) fun u s' ⟨w, H', I', rw', b, hb, q'⟩ => ?_
  subst hb
  obtain rfl : u = Value.bool b := rw'
  exact wpAny_truthy_bool ⟨.bl (!b), H', I'.unwish, rfl, by simpa using q'⟩
def inOF (n : Nat) (c : Str) (F : List PV → M PV) (neg : Bool) : PV → PV → M PV := fun x y st => (noX (callO n c F y [x] st)).bind fun q st => match q with
  | .bl b => .ok (.bl (b != neg)) st
  | _ => .stuck
theorem sop_inO {G : GC} {c : Str} {n : Nat} {F : List PV → M PV} {neg : Bool} : SOp G (rInO G c n F neg) (inOF n c F neg) := by
  intro r H st p q x y E Q R hx hy h
  unfold inOF at h
  refine callO_ok (E := fun _ _ _ => False) R hy (RepL.cons hx RepL.nil) (Post.noX h.bind |>.imp fun q st1 r1 H1 t1 R1 h1 w hw => ?_)
  split at h1
  · rename_i b
    simp only [Rep] at hw
    subst hw
    exact ⟨b, rfl, h1 r1 H1 Step.refl R1 _ rep_bl⟩
  · exact h1.elim

/-! ### isinstance -/
inductive BT where
  | non | bl | int | str | tup | lst | dct
def BT.nm : BT → String
  | .non => "NoneType"
  | .bl => "bool"
  | .int => "int"
  | .str => "str"
  | .tup => "tuple"
  | .lst => "list"
  | .dct => "dict"
def btOf : String → Option BT
  | "int" => some .int
  | "bool" => some .bl
  | "tuple" => some .tup
  | "list" => some .lst
  | "str" => some .str
  | "dict" => some .dct
  | _ => none
theorem btOf_nm {n : String} {b : BT} (h : btOf n = some b) : n = b.nm := by
  unfold btOf at h
  split at h <;> cases h <;> rfl
def isiBB : BT → BT → Bool
  | .non, .non => true
  | .bl, .bl => true
  | .bl, .int => true
  | .int, .int => true
  | .str, .str => true
  | .tup, .tup => true
  | .lst, .lst => true
  | .dct, .dct => true
  | _, _ => false
theorem isiBB_ok (a b : BT) : kitB a.nm b.nm = some (isiBB a b) := by
  cases a <;> cases b <;> decide +kernel
/-- what the text must tell of a class that isinstance asks about -/
structure IsiF (G : GC) (c : Str) : Prop where
  cls : ∀ C, G.mg c = some (.ref C) → Cls G.K C ∧ PySem.W.findIn G.K (.ref C) "__class__" = some (some (.builtin "object.__class__")) ∧ PySem.W.mroIn G.K C (.type "object") = some true
  sp : PySem.W.specialIn G.K (.builtin "object.__class__") "__get__" = some (some (.builtin "getset_descriptor.__get__"))
  tk : PySem.W.takesIn G.K (.builtin "object.__class__") = some true
  ob : ∀ C (b : BT), G.mg c = some (.ref C) → PySem.W.kitOne G.K (.ref C) (.type b.nm) = some false
  bo : ∀ C (b : BT), G.mg c = some (.ref C) → PySem.W.kitOne G.K (.type b.nm) (.ref C) = some false
/-- .. of two such classes -/
structure IsiP (G : GC) (c d : Str) (b : Bool) : Prop where
  oo : ∀ C D, G.mg c = some (.ref C) → G.mg d = some (.ref D) → PySem.W.kitOne G.K (.ref C) (.ref D) = some b
/-- the table of such pairs -/
abbrev IT := List (Str × Str × Bool)
structure IsiT (G : GC) (own : List Str) (tab : IT) : Prop where
  o : ∀ c ∈ own, IsiF G c
  p : ∀ x ∈ tab, IsiP G x.1 x.2.1 x.2.2
inductive TN where
  | b (x : BT) | o (c : Str)
def tnOf (st : Store) : PV → Option TN
  | .non => some (.b .non)
  | .bl _ => some (.b .bl)
  | .int _ => some (.b .int)
  | .str _ => some (.b .str)
  | .tup _ => some (.b .tup)
  | .lst _ => some (.b .lst)
  | .rls _ => some (.b .lst)
  | .obj c _ _ => some (.o c)
  | .dct _ _ _ => some (.b .dct)
  | .loc l => match st[l]? with
    | some (.lst _) => some (.b .lst)
    | some (.ins c _ _) => some (.o c)
    | _ => none
  | _ => none
def findT : IT → Str → Str → Option Bool
  | [], _, _ => none
  | (a, b, r) :: t, c, d => if a = c ∧ b = d then some r else findT t c d
theorem findT_ok : ∀ {tab : IT} {c d : Str} {b : Bool}, findT tab c d = some b → (c, d, b) ∈ tab
  | [], _, _, _, h => by cases h
  | (a, e, r) :: t, c, d, b, h => by
    unfold findT at h
    split at h
    · rename_i q; cases h; obtain ⟨rfl, rfl⟩ := q; exact List.mem_cons_self
    · exact List.mem_cons_of_mem _ (findT_ok h)
def isiA (own : List Str) (tab : IT) : TN → PV → Option Bool
  | .b t, .ty n => (btOf n).map fun c => isiBB t c
  | .b _, .gl d => if d ∈ own then some false else none
  | .o c, .ty n => match btOf n with
    | some _ => if c ∈ own then some false else none
    | none => none
  | .o c, .gl d => if c ∈ own then findT tab c d else none
  | _, _ => none
def isiF (own : List Str) (tab : IT) : List PV → M PV := fun ps st => match ps with
  | [p, c] => match tnOf st p with
    | some t => match isiA own tab t c with
      | some b => .ok (.bl b) st
      | none => .stuck
    | none => .stuck
  | _ => .stuck
def tnV (G : GC) : TN → Value → Prop
  | .b t, u => u = .type t.nm
  | .o c, u => ∃ C, G.mg c = some (.ref C) ∧ u = .ref C
theorem tn_ok {G : GC} {r : Loc} {H : Hp} {st : Store} {p : PV} {v : V} {t : TN} (R : SRel G r H st) (k : Rep G r H p v) (h : tnOf st p = some t) (ho : ∀ c, t = .o c → IsiF G c) : ∃ u, tnV G t u ∧ TyX G.K H v u := by
  have sqT : ∀ {a : Addr} {vs : List V}, FT G.K r H a vs → TyX G.K H (.ref a) (.type "tuple") := fun f => by
    rcases f with ⟨f | ⟨o, f⟩, _⟩ | ⟨o, its, n, hl, hc, _⟩
    · exact .base (.tup f)
    · exact .fTuple f
    · exact .kTuple hl hc
  have sqL : ∀ {a : Addr} {vs : List V}, FL G.K r H a vs → TyX G.K H (.ref a) (.type "list") := fun f => by
    rcases f with ⟨f | ⟨o, f⟩, _⟩ | ⟨o, its, n, hl, hc, _⟩
    · exact .base (.lst f)
    · exact .base (.frz f)
    · exact .kList hl hc
  have ins : ∀ {c : Str} {a C dx : Addr} {fs : List (Str × V)}, t = .o c → G.mg c = some (.ref C) → H a = some (.ins C dx fs) → ∃ u, tnV G t u ∧ TyX G.K H (.ref a) u := fun e m ea => by
    subst e
    have q := ho _ rfl
    obtain ⟨q1, q2, q3⟩ := q.cls _ m
    exact ⟨_, ⟨_, m, rfl⟩, .base (.ins ea q1 q2 q.sp q.tk q3)⟩
  cases p with
  | non => cases h; simp only [Rep] at k; subst k; exact ⟨_, rfl, .base .non⟩
  | bl b => cases h; simp only [Rep] at k; subst k; exact ⟨_, rfl, .base (.bl b)⟩
  | int i => cases h; simp only [Rep] at k; subst k; exact ⟨_, rfl, .base (.int i)⟩
  | str x => cases h; simp only [Rep] at k; subst k; exact ⟨_, rfl, .base (.str x)⟩
  | ty n => cases h
  | gl x => cases h
  | tup xs => cases h; simp only [Rep] at k; obtain ⟨a, vs, rfl, f, l⟩ := k; exact ⟨_, rfl, sqT f⟩
  | lst xs => cases h; simp only [Rep] at k; obtain ⟨a, vs, rfl, f, n, l⟩ := k; exact ⟨_, rfl, .base (.lst f)⟩
  | rls xs => cases h; simp only [Rep] at k; obtain ⟨a, vs, rfl, f, l⟩ := k; exact ⟨_, rfl, sqL f⟩
  | obj c ns fs => cases h; simp only [Rep] at k; obtain ⟨a, C, dx, gs, rfl, m, ea, z, n, l⟩ := k; exact ins rfl m ea
  | dct lk ks xs =>
    cases h
    simp only [Rep] at k
    obtain ⟨a, vs, rfl, f, _⟩ := k
    cases lk with
    | false => exact ⟨_, rfl, .base (.dK f)⟩
    | true => obtain ⟨o, f⟩ := f; exact ⟨_, rfl, .fDict f⟩
  | loc l =>
    simp only [tnOf] at h
    split at h
    · rename_i xs hl
      cases h
      obtain ⟨a, rfl, _, vs, ea, z⟩ := loc_ok R k hl rfl
      exact ⟨_, rfl, .base (.lst ea)⟩
    · rename_i c ns fs hl
      cases h
      obtain ⟨a, rfl, _, C, dx, gs, m, ea, z, _⟩ := loc_ok R k hl rfl
      exact ins rfl m ea
    · cases h
theorem scall_isi {G : GC} {own : List Str} {tab : IT} (T : IsiT G own tab) : SCall G (rIsi G.K) (isiF own tab) := by
  intro r H st ps xs E Q R hx h
  unfold isiF at h
  split at h
  · rename_i p c
    obtain ⟨x, y, rfl, kx, ky⟩ := rep2 hx
    split at h
    · rename_i t ht
      split at h
      · rename_i b hb
        have hq := h r H Step.refl R _ rep_bl
        have ho : ∀ d, t = .o d → IsiF G d := fun d e => by
          subst e
          cases c with
          | ty n =>
            simp only [isiA] at hb
            split at hb
            · split at hb
              · rename_i hm; exact T.o d hm
              · cases hb
            · cases hb
          | gl z =>
            simp only [isiA] at hb
            split at hb
            · rename_i hm; exact T.o d hm
            · cases hb
          | _ => cases hb
        obtain ⟨u, hu, ty⟩ := tn_ok R kx ht ho
        cases c with
        | ty n =>
          simp only [Rep] at ky
          subst ky
          refine ⟨x, _, u, .type n, b, rfl, .ty n, ty, ?_, hq⟩
          cases t with
          | b z =>
            simp only [isiA] at hb
            obtain ⟨w, hw, rfl⟩ := map_some hb
            cases btOf_nm hw
            cases hu
            exact kit_ty (isiBB_ok z w)
          | o z =>
            simp only [isiA] at hb
            split at hb
            · rename_i w hw
              split at hb
              · rename_i hm
                cases hb
                cases btOf_nm hw
                obtain ⟨C, m, rfl⟩ := hu
                exact (T.o z hm).ob C w m
              · cases hb
            · cases hb
        | gl d =>
          simp only [Rep] at ky
          obtain ⟨D, rfl, mD⟩ := ky
          refine ⟨x, _, u, .ref D, b, rfl, .own D, ty, ?_, hq⟩
          cases t with
          | b z =>
            simp only [isiA] at hb
            split at hb
            · rename_i hm
              cases hb
              cases hu
              exact (T.o d hm).bo D z mD
            · cases hb
          | o z =>
            simp only [isiA] at hb
            split at hb
            · obtain ⟨C, m, rfl⟩ := hu
              exact (T.p _ (findT_ok hb)).oo C D m mD
            · cases hb
        | _ => cases t <;> cases hb
      · exact h.elim
    · exact h.elim
  · exact h.elim
end CD

set_option Elab.async false
set_option linter.all false
set_option maxRecDepth 100000
set_option maxHeartbeats 2000000
namespace CD
open PySem PySem.Spec PyProof.Rows L2 RZ StX ClX
variable {X : Cx} {W : WX}

/-! ### zip of lists and tuples in any mix -/
inductive SK where
  | l | t
def SqK (K : PySem.W.Frag) (H : Hp) : SK → Addr → List V → Prop
  | .l, a, xs => SqL K H a xs
  | .t, a, xs => SqT K H a xs
def ItrK (h : Heap) : SK → Addr → Addr → Nat → Prop
  | .l, it, a, i => h.IsListIter it a i
  | .t, it, a, i => h.IsTupleIter it a i
def SeqK (h : Heap) : SK → Addr → Array Value → Prop
  | .l, a, xs => h.IsList a xs
  | .t, a, xs => h.IsTuple a xs
def ItrK.obj : SK → Addr → Obj
  | .l, a => { cls := .type "list_iterator", data := .fields #[.ref a, .int 0 0] }
  | .t, a => { cls := .type "tuple_iterator", data := .fields #[.ref a, .int 0 0] }
theorem begins_K (k : SK) (a : Addr) (items : Array Value) : Begins (.ref a) (ItrK.obj k a) fun h => SeqK h k a items := by
  cases k with
  | l => exact begins_list a items
  | t => exact begins_tuple a items
theorem itrK_new {h : Heap} {k : SK} {it a : Addr} (e : h.get? it = some (ItrK.obj k a)) : ItrK h k it a 0 := by
  cases k with
  | l => exact ⟨_, e, rfl, rfl⟩
  | t => exact ⟨_, e, rfl, rfl⟩
theorem draws_K {prog : Program} {w : World} {A : Around} (hh : A.handled = none) (k : SK) (it a : Addr) (hne : a ≠ it) (items : Array Value) :
    Draws prog w A it [it, a] items.size (fun i v => items[i]? = some v) (fun i h => ItrK h k it a i ∧ SeqK h k a items) := by
  cases k with
  | l => exact Draws.list hh it a hne items
  | t => exact Draws.tuple hh it a hne items
theorem ItrK.keep {h h' : Heap} {k : SK} {it a : Addr} {i : Nat} (s : ItrK h k it a i) (q : ∀ o, h.get? it = some o → h'.get? it = some o) : ItrK h' k it a i := by
  cases k with
  | l => exact Heap.IsListIter.at s q
  | t => exact Heap.IsTupleIter.at s q
theorem ItrK.there {h : Heap} {k : SK} {it a : Addr} {i : Nat} (s : ItrK h k it a i) : ∃ o, h.get? it = some o ∧ ∀ v, o.data ≠ .cell v := by
  cases k with
  | l => obtain ⟨o, e, _, d⟩ := s; exact ⟨o, e, fun v q => by rw [d] at q; cases q⟩
  | t => obtain ⟨o, e, _, d⟩ := s; exact ⟨o, e, fun v q => by rw [d] at q; cases q⟩
theorem inv_K {pins : List (Addr × Obj)} {σ : L2.St} {H : Hp} {s : Shared} {k : SK} {a : Addr} {xs : List V} (I : Inv X pins σ H s) (h : SqK X.K H k a xs) : ∃ its : List Value, Vals xs its ∧ SeqK s.heap k a its.toArray ∧ a < s.heap.objs.size := by
  cases k with
  | l =>
    obtain ⟨its, r, p, _⟩ := I.list h
    exact ⟨its, r, p.isList, p.lt⟩
  | t =>
    obtain ⟨its, r, p, _⟩ := I.tuple h
    obtain ⟨o, ho, _⟩ := id p
    exact ⟨its, r, p, Heap.lt_size ho⟩
theorem inj_K {pins : List (Addr × Obj)} {σ : L2.St} {H : Hp} {s : Shared} {k : SK} {a : Addr} {xs ys : List V} (I : Inv X pins σ H s) (h : SqK X.K H k a xs) (h' : SqK X.K H k a ys) : xs = ys := by
  cases k with
  | l => exact I.list_inj h h'
  | t => exact I.tuple_inj h h'
def Itz2 (K : PySem.W.Frag) (k1 k2 : SK) (a b : Addr) : It :=
  ⟨fun i H => ∃ (xs ys : List V) (x y : V), SqK K H k1 a xs ∧ SqK K H k2 b ys ∧ xs[i]? = some x ∧ ys[i]? = some y,
    fun i H v H' => ∃ T x y, v = .ref T ∧ H T = none ∧ H' = upd H T (.tup [x, y]) ∧ (∀ xs, SqK K H k1 a xs → xs[i]? = some x) ∧ ∀ ys, SqK K H k2 b ys → ys[i]? = some y,
    fun i H => ∃ xs ys : List V, SqK K H k1 a xs ∧ SqK K H k2 b ys ∧ i = min xs.length ys.length⟩
theorem mem_skip2 {c z TI : Addr} {l : List Addr} (h : c ∈ z :: l) : c ∈ z :: TI :: l := by
  rcases List.mem_cons.mp h with h | h
  · rw [h]; exact List.mem_cons_self
  · exact List.mem_cons_of_mem _ (List.mem_cons_of_mem _ h)
theorem turn_z2 {P : Program} {w : World} {K : PySem.W.Frag} {elts : List Expr} {kk : Nat} {tpos : Pos} {k1 k2 : SK} {a b z TI TO i1 i2 : Addr} (S : ZipSep2 z TI TO i1 i2 [i1, a] [i2, b]) (n1 : a ≠ i1) (n2 : b ≠ i2) :
    Turn P w K (.Tuple elts kk tpos) (Itz2 K k1 k2 a b) [z, TI, TO, i1, i2] z (fun i h => IsZip h z TI TO .none ∧ IsTupOf2 h TI (.ref i1) (.ref i2) ∧ (∃ x y, IsTupOf2 h TO x y) ∧ ItrK h k1 i1 a i ∧ ItrK h k2 i2 b i) where
  mem := by simp
  obj := fun i h st c hc => by
    obtain ⟨hz, hTI, ⟨x, y, hTO⟩, h1, h2⟩ := st
    have e' : c = z ∨ c = TI ∨ c = TO ∨ c = i1 ∨ c = i2 := by simpa using hc
    rcases e' with q | q | q | q | q
    · rw [q]; exact ⟨_, hz, fun v q => nomatch q⟩
    · rw [q]; exact ⟨_, hTI, fun v q => nomatch q⟩
    · rw [q]; exact ⟨_, hTO, fun v q => nomatch q⟩
    · rw [q]; exact h1.there
    · rw [q]; exact h2.there
  keep := fun i h h' st k => by
    obtain ⟨hz, hTI, ⟨x, y, hTO⟩, h1, h2⟩ := st
    exact ⟨k z (by simp) _ hz, k TI (by simp) _ hTI, ⟨x, y, k TO (by simp) _ hTO⟩, h1.keep fun o q => k i1 (by simp) o q, h2.keep fun o q => k i2 (by simp) o q⟩
  item := by
    intro X hP hw hK hc i pins s σ H E I hf st hg
    subst hP hw hK
    obtain ⟨hz, hTI, ⟨x0, y0, hTO⟩, h1, h2⟩ := st
    obtain ⟨xs, ys, x, y, hqx, hqy, hx, hy⟩ := hg
    obtain ⟨its, rv, p, _⟩ := inv_K I hqx
    obtain ⟨its2, rv2, p2, _⟩ := inv_K I hqy
    obtain ⟨u, hu, ru⟩ := rv.get hx
    obtain ⟨u2, hu2, ru2⟩ := rv2.get hy
    have D1 := draws_K (prog := X.prog) (w := X.w) (A := X.A.in1) (I.ok.hd hc) k1 i1 a n1 its.toArray
    have D2 := draws_K (prog := X.prog) (w := X.w) (A := X.A.in1) (I.ok.hd hc) k2 i2 b n2 its2.toArray
    have hlt : i < min its.toArray.size its2.toArray.size := by
      have l1 := lt_of_get hu
      have l2 := lt_of_get hu2
      rw [List.size_toArray, List.size_toArray]; omega
    refine (GoesN.zip2 (elts := elts) (x1 := kk) (pos := tpos) S D1 D2).goes i s _ E hlt ⟨hz, hTI, ⟨x0, y0, hTO⟩, ⟨h1, p⟩, ⟨h2, p2⟩⟩ fun v h' tk hY hSt hk htk => ?_
    obtain ⟨T, v1, v2, rfl, hT, e1, e2, hTT⟩ := hY
    obtain ⟨z', TI', TO', ⟨h1', _⟩, ⟨h2', _⟩⟩ := hSt
    have e1' : v1 = u := by
      have := e1.symm.trans (by simpa using hu); simpa using this
    have e2' : v2 = u2 := by
      have := e2.symm.trans (by simpa using hu2); simpa using this
    subst e1'; subst e2'
    obtain ⟨oT, gT, cT, nT, dT⟩ := hTT
    have new : ObjOk X.prog X.w (upd H T (.tup [x, y])) h' T (.tup [x, y]) :=
      ⟨by show 2 ≤ sizeLine; decide, [v1, v2], .cons ru (.cons ru2 .nil), ⟨oT, gT, cT, nT, dT⟩⟩
    have I1 : Inv X pins σ (upd H T (.tup [x, y])) { s with heap := h', toks := tk } :=
      I.turnedNew (ch := [z, TI, TO, i1, i2]) (fun c o hb q => hk c o (fun q' => hb (mem_skip2 q')) q) hf hT new
    refine ⟨.ref T, _, I1, rfl, ⟨T, x, y, rfl, I.hok.fresh hT, rfl, fun l hl => by rw [inj_K I hl hqx]; exact hx, fun l hl => by rw [inj_K I hl hqy]; exact hy⟩, ⟨z', TI', TO', h1', h2'⟩, fun c hcm => ?_⟩
    have hlt : c < s.heap.objs.size := by
      have e' : c = z ∨ c = TI ∨ c = TO ∨ c = i1 ∨ c = i2 := by simpa using hcm
      rcases e' with q | q | q | q | q
      · rw [q]; exact Heap.lt_size hz
      · rw [q]; exact Heap.lt_size hTI
      · rw [q]; exact Heap.lt_size hTO
      · rw [q]; obtain ⟨_, e1, _⟩ := h1.there; exact Heap.lt_size e1
      · rw [q]; obtain ⟨_, e1, _⟩ := h2.there; exact Heap.lt_size e1
    rw [upd_ne (Nat.ne_of_lt (Nat.lt_of_lt_of_le hlt hT))]
    exact (hf c hcm).1
  done := by
    intro X hP hw hK hc i pins s σ H E I hf st hg
    subst hP hw hK
    obtain ⟨hz, hTI, ⟨x0, y0, hTO⟩, h1, h2⟩ := st
    obtain ⟨xs, ys, hqx, hqy, rfl⟩ := hg
    obtain ⟨its, rv, p, _⟩ := inv_K I hqx
    obtain ⟨its2, rv2, p2, _⟩ := inv_K I hqy
    have D1 := draws_K (prog := X.prog) (w := X.w) (A := X.A.in1) (I.ok.hd hc) k1 i1 a n1 its.toArray
    have D2 := draws_K (prog := X.prog) (w := X.w) (A := X.A.in1) (I.ok.hd hc) k2 i2 b n2 its2.toArray
    have e : min xs.length ys.length = min its.toArray.size its2.toArray.size := by
      rw [List.size_toArray, List.size_toArray, rv.length, rv2.length]
    rw [e] at h1 h2
    exact (GoesN.zip2 (elts := elts) (x1 := kk) (pos := tpos) S D1 D2).stops s _ E ⟨hz, hTI, ⟨x0, y0, hTO⟩, ⟨h1, p⟩, ⟨h2, p2⟩⟩ fun h' tk hk htk =>
      I.turnedL (ch := [z, TI, TO, i1, i2]) (fun c o hb q => hk c o (fun q' => hb (mem_skip2 q')) q) hf
  self := fun A i s Q E st h => wpAny_pyIter_zip st.1 h
def iZip2 (K : PySem.W.Frag) (ta : TA) : TI := fun σ H R => ta σ H fun vs H1 => ∃ k1 k2 a b xs ys, vs = [.ref a, .ref b] ∧ SqK K H1 k1 a xs ∧ SqK K H1 k2 b ys ∧ R (Itz2 K k1 k2 a b) H1
theorem pi_zip2 {e e2 : Expr} {ta : TA} {p pos tpos : Pos} {elts : List Expr} {kk : Nat} (hg : Gl X "zip") (hm : X.mg "zip" = none) (ha : PA X [e, e2] ta)
    (hs : starEach [e, e2] X.env = (false, eval e X.env) :: starEach [e2] X.env := by rfl) (hpl : (backTo pos (starEach [e2] X.env)).any (·.1) = false := by rfl) :
    PI X (.Tuple elts kk tpos) (.Call (.Name "zip" p) [e, e2] [] pos) (iZip2 X.K ta) := by
  refine ⟨fun pins s σ H R I h => ?_⟩
  refine Call_ (ld_blt I hg hm PyProof.Rows.boot_zip (PyProof.Rows.callWith_type1 (thn (ha.run pos pins s σ H _ I h) fun us s1 ⟨vs, H1, I1, r1, q1⟩ => ?_) hs hpl))
  obtain ⟨k1, k2, a, b, xs, ys, ex, hqx, hqy, q⟩ := q1
  subst ex
  obtain ⟨u1, u2, rfl, r1', r2'⟩ := vals2 r1
  cases (show u1 = Value.ref a from r1')
  cases (show u2 = Value.ref b from r2')
  obtain ⟨its, rv, p1, la⟩ := inv_K I1 hqx
  obtain ⟨its2, rv2, p2, lb⟩ := inv_K I1 hqy
  refine zip_begins2 (begins_K k1 a its.toArray) (begins_K k2 b its2.toArray) p1 p2 fun h' hz hTI hTO g1 g2 hsz hk => wpAny_pyIter_zip hz ?_
  have I2 : Inv X pins σ H1 { s1 with heap := h' } := I1.kept (t' := s1.toks) hk
  have fresh : ∀ c, c ∈ [s1.heap.objs.size + 4, s1.heap.objs.size + 2, s1.heap.objs.size + 3, s1.heap.objs.size, s1.heap.objs.size + 1] → FpOk X pins H1 c := fun c hcm => by
    have hle : s1.heap.objs.size ≤ c := by
      have e' : c = s1.heap.objs.size + 4 ∨ c = s1.heap.objs.size + 2 ∨ c = s1.heap.objs.size + 3 ∨ c = s1.heap.objs.size ∨ c = s1.heap.objs.size + 1 := by simpa using hcm
      rcases e' with z | z | z | z | z
      · rw [z]; exact Nat.le_add_right _ _
      · rw [z]; exact Nat.le_add_right _ _
      · rw [z]; exact Nat.le_add_right _ _
      · rw [z]; exact Nat.le_refl _
      · rw [z]; exact Nat.le_add_right _ _
    exact I1.fpOk hle (I1.hok.fresh hle)
  refine ⟨s1.heap.objs.size + 4, [s1.heap.objs.size + 4, s1.heap.objs.size + 2, s1.heap.objs.size + 3, s1.heap.objs.size, s1.heap.objs.size + 1], _, _, H1, rfl, I2,
    turn_z2 (k1 := k1) (k2 := k2) (zip_sep2 (fp1 := [a]) (fp2 := [b]) (by simpa using la) (by simpa using lb)) (Nat.ne_of_lt la) (Nat.ne_of_lt (Nat.lt_of_lt_of_le lb (Nat.le_succ _))), ⟨hz, hTI, ⟨_, _, hTO⟩, itrK_new g1, itrK_new g2⟩, fresh, q⟩
theorem walk_z2 {K : PySem.W.Frag} {k1 k2 : SK} {a b : Addr} {xs ys : List V} {n : Nat} (hn : n = min xs.length ys.length) : Walk (Itz2 K k1 k2 a b) n (fun H => SqK K H k1 a xs ∧ SqK K H k2 b ys) (YPair (fun i => xs[i]?) (fun i => ys[i]?)) := by
  subst hn
  refine ⟨fun i _ hi q => ?_, fun _ q => ⟨xs, ys, q.1, q.2, rfl⟩, fun i H v H' _ q y => ?_⟩
  · have h1 : i < xs.length := by omega
    have h2 : i < ys.length := by omega
    exact ⟨xs, ys, xs[i], ys[i], q.1, q.2, by simp [h1], by simp [h2]⟩
  · obtain ⟨T, x, z, h1, h2, h3, h4, h5⟩ := y
    exact ⟨T, x, z, h1, h2, h3, h4 xs q.1, h5 ys q.2⟩
/-- a sequence that stands still while it is walked -/
def still : PV → Option (List PV)
  | .tup xs => some xs
  | .lst xs => some xs
  | .rls xs => some xs
  | _ => none
theorem still_ok {G : GC} {r : Loc} {H : Hp} {p : PV} {v : V} {xs : List PV} (k : Rep G r H p v) (h : still p = some xs) : ∃ a vs k, v = .ref a ∧ (∀ r' H', Evo r H r' H' → SqK G.K H' k a vs) ∧ RepL G r H xs vs := by
  cases p with
  | tup ys =>
    cases h
    simp only [Rep] at k
    obtain ⟨a, vs, e, f, l⟩ := k
    exact ⟨a, vs, .t, e, fun r' H' t => (f.evo t).sq, l⟩
  | lst ys =>
    cases h
    simp only [Rep] at k
    obtain ⟨a, vs, e, f, n, l⟩ := k
    exact ⟨a, vs, .l, e, fun r' H' t => SqL.of (t.keep _ _ n f), l⟩
  | rls ys =>
    cases h
    simp only [Rep] at k
    obtain ⟨a, vs, e, f, l⟩ := k
    exact ⟨a, vs, .l, e, fun r' H' t => (f.evo t).sq, l⟩
  | _ => cases h
def zipD2 (ds : PEnv → M (List PV)) : PEnv → M (List PV) := fun env st => (ds env st).bind fun ps st => match ps with
  | [p, q] => match still p, still q with
    | some xs, some ys => .ok (pairs xs ys) st
    | _, _ => .stuck
  | _ => .stuck
theorem si_zip2 {e e2 : Expr} {ta : TA} {ds : PEnv → M (List PV)} {p pos tpos : Pos} {elts : List Expr} {kk : Nat} (hg : Gl X "zip") (hm : X.mg "zip" = none) (ha : SA X W [e, e2] ta ds)
    (hs : starEach [e, e2] X.env = (false, eval e X.env) :: starEach [e2] X.env := by rfl) (hpl : (backTo pos (starEach [e2] X.env)).any (·.1) = false := by rfl) : SI X W (.Tuple elts kk tpos) (.Call (.Name "zip" p) [e, e2] [] pos) (iZip2 X.K ta) (zipD2 ds) := by
  refine ⟨pi_zip2 hg hm ha.pa hs hpl, fun r s H env st R E Rl q => ?_⟩
  refine ha.so r s H env st _ E Rl (q.bind.imp fun ps st1 r1 H1 t1 R1 h1 vs hv => ?_)
  split at h1
  · rename_i p q
    split at h1
    · rename_i xs ys hx hy
      obtain ⟨v, w, rfl, k, l⟩ := rep2 hv
      obtain ⟨a, us, k1, rfl, f1, l1⟩ := still_ok k hx
      obtain ⟨b, ws, k2, rfl, f2, l2⟩ := still_ok l hy
      refine ⟨k1, k2, a, b, us, ws, rfl, f1 _ _ Evo.refl, f2 _ _ Evo.refl, h1 r1 H1 Step.refl R1 _ ?_⟩
      exact walks_pairs (by rw [l1.len, l2.len]) (walk_z2 rfl) (fun r' H' e => ⟨f1 _ _ e, f2 _ _ e⟩) (fun i v p hi hp => by
        obtain ⟨z, hz, kz⟩ := l1.get hp; rw [hi] at hz; cases hz; exact kz) (fun i v p hi hp => by
        obtain ⟨z, hz, kz⟩ := l2.get hp; rw [hi] at hz; cases hz; exact kz)
    · exact h1.elim
  · exact h1.elim
/-! ### three of them -/
def Itz3 (K : PySem.W.Frag) (k1 k2 k3 : SK) (a b c : Addr) : It :=
  ⟨fun i H => ∃ (xs ys zs : List V) (x y z : V), SqK K H k1 a xs ∧ SqK K H k2 b ys ∧ SqK K H k3 c zs ∧ xs[i]? = some x ∧ ys[i]? = some y ∧ zs[i]? = some z,
    fun i H v H' => ∃ T x y z, v = .ref T ∧ H T = none ∧ H' = upd H T (.tup [x, y, z]) ∧ (∀ xs, SqK K H k1 a xs → xs[i]? = some x) ∧ (∀ ys, SqK K H k2 b ys → ys[i]? = some y) ∧ ∀ zs, SqK K H k3 c zs → zs[i]? = some z,
    fun i H => ∃ xs ys zs : List V, SqK K H k1 a xs ∧ SqK K H k2 b ys ∧ SqK K H k3 c zs ∧ i = min (min xs.length ys.length) zs.length⟩
theorem turn_z3 {P : Program} {w : World} {K : PySem.W.Frag} {elts : List Expr} {kk : Nat} {tpos : Pos} {k1 k2 k3 : SK} {a b c0 z TI TO i1 i2 i3 : Addr} (S : ZipSep3 z TI TO i1 i2 i3 [i1, a] [i2, b] [i3, c0]) (n1 : a ≠ i1) (n2 : b ≠ i2) (n3 : c0 ≠ i3) :
    Turn P w K (.Tuple elts kk tpos) (Itz3 K k1 k2 k3 a b c0) [z, TI, TO, i1, i2, i3] z (fun i h => IsZip h z TI TO .none ∧ IsTupOf3 h TI (.ref i1) (.ref i2) (.ref i3) ∧ (∃ x y u, IsTupOf3 h TO x y u) ∧ ItrK h k1 i1 a i ∧ ItrK h k2 i2 b i ∧ ItrK h k3 i3 c0 i) where
  mem := by simp
  obj := fun i h st c hc => by
    obtain ⟨hz, hTI, ⟨x, y, u, hTO⟩, h1, h2, h3⟩ := st
    have e' : c = z ∨ c = TI ∨ c = TO ∨ c = i1 ∨ c = i2 ∨ c = i3 := by simpa using hc
    rcases e' with q | q | q | q | q | q
    · rw [q]; exact ⟨_, hz, fun v q => nomatch q⟩
    · rw [q]; exact ⟨_, hTI, fun v q => nomatch q⟩
    · rw [q]; exact ⟨_, hTO, fun v q => nomatch q⟩
    · rw [q]; exact h1.there
    · rw [q]; exact h2.there
    · rw [q]; exact h3.there
  keep := fun i h h' st k => by
    obtain ⟨hz, hTI, ⟨x, y, u, hTO⟩, h1, h2, h3⟩ := st
    exact ⟨k z (by simp) _ hz, k TI (by simp) _ hTI, ⟨x, y, u, k TO (by simp) _ hTO⟩, h1.keep fun o q => k i1 (by simp) o q, h2.keep fun o q => k i2 (by simp) o q, h3.keep fun o q => k i3 (by simp) o q⟩
  item := by
    intro X hP hw hK hc i pins s σ H E I hf st hg
    subst hP hw hK
    obtain ⟨hz, hTI, ⟨x0, y0, u0, hTO⟩, h1, h2, h3⟩ := st
    obtain ⟨xs, ys, zs, x, y, zz, hqx, hqy, hqz, hx, hy, hzz⟩ := hg
    obtain ⟨its, rv, p, _⟩ := inv_K I hqx
    obtain ⟨its2, rv2, p2, _⟩ := inv_K I hqy
    obtain ⟨its3, rv3, p3, _⟩ := inv_K I hqz
    obtain ⟨u, hu, ru⟩ := rv.get hx
    obtain ⟨u2, hu2, ru2⟩ := rv2.get hy
    obtain ⟨u3, hu3, ru3⟩ := rv3.get hzz
    have D1 := draws_K (prog := X.prog) (w := X.w) (A := X.A.in1) (I.ok.hd hc) k1 i1 a n1 its.toArray
    have D2 := draws_K (prog := X.prog) (w := X.w) (A := X.A.in1) (I.ok.hd hc) k2 i2 b n2 its2.toArray
    have D3 := draws_K (prog := X.prog) (w := X.w) (A := X.A.in1) (I.ok.hd hc) k3 i3 c0 n3 its3.toArray
    have hlt : i < min (min its.toArray.size its2.toArray.size) its3.toArray.size := by
      have l1 := lt_of_get hu
      have l2 := lt_of_get hu2
      have l3 := lt_of_get hu3
      rw [List.size_toArray, List.size_toArray, List.size_toArray]; omega
    refine (GoesN.zip3 (elts := elts) (x1 := kk) (pos := tpos) S D1 D2 D3).goes i s _ E hlt ⟨hz, hTI, ⟨x0, y0, u0, hTO⟩, ⟨h1, p⟩, ⟨h2, p2⟩, ⟨h3, p3⟩⟩ fun v h' tk hY hSt hk htk => ?_
    obtain ⟨T, v1, v2, v3, rfl, hT, e1, e2, e3, hTT⟩ := hY
    obtain ⟨z', TI', TO', ⟨h1', _⟩, ⟨h2', _⟩, ⟨h3', _⟩⟩ := hSt
    have e1' : v1 = u := by
      have := e1.symm.trans (by simpa using hu); simpa using this
    have e2' : v2 = u2 := by
      have := e2.symm.trans (by simpa using hu2); simpa using this
    have e3' : v3 = u3 := by
      have := e3.symm.trans (by simpa using hu3); simpa using this
    subst e1'; subst e2'; subst e3'
    obtain ⟨oT, gT, cT, nT, dT⟩ := hTT
    have new : ObjOk X.prog X.w (upd H T (.tup [x, y, zz])) h' T (.tup [x, y, zz]) :=
      ⟨by show 3 ≤ sizeLine; decide, [v1, v2, v3], .cons ru (.cons ru2 (.cons ru3 .nil)), ⟨oT, gT, cT, nT, dT⟩⟩
    have I1 : Inv X pins σ (upd H T (.tup [x, y, zz])) { s with heap := h', toks := tk } :=
      I.turnedNew (ch := [z, TI, TO, i1, i2, i3]) (fun c o hb q => hk c o (fun q' => hb (mem_skip2 q')) q) hf hT new
    refine ⟨.ref T, _, I1, rfl, ⟨T, x, y, zz, rfl, I.hok.fresh hT, rfl, fun l hl => by rw [inj_K I hl hqx]; exact hx, fun l hl => by rw [inj_K I hl hqy]; exact hy, fun l hl => by rw [inj_K I hl hqz]; exact hzz⟩, ⟨z', TI', TO', h1', h2', h3'⟩, fun c hcm => ?_⟩
    have hlt : c < s.heap.objs.size := by
      have e' : c = z ∨ c = TI ∨ c = TO ∨ c = i1 ∨ c = i2 ∨ c = i3 := by simpa using hcm
      rcases e' with q | q | q | q | q | q
      · rw [q]; exact Heap.lt_size hz
      · rw [q]; exact Heap.lt_size hTI
      · rw [q]; exact Heap.lt_size hTO
      · rw [q]; obtain ⟨_, e1, _⟩ := h1.there; exact Heap.lt_size e1
      · rw [q]; obtain ⟨_, e1, _⟩ := h2.there; exact Heap.lt_size e1
      · rw [q]; obtain ⟨_, e1, _⟩ := h3.there; exact Heap.lt_size e1
    rw [upd_ne (Nat.ne_of_lt (Nat.lt_of_lt_of_le hlt hT))]
    exact (hf c hcm).1
  done := by
    intro X hP hw hK hc i pins s σ H E I hf st hg
    subst hP hw hK
    obtain ⟨hz, hTI, ⟨x0, y0, u0, hTO⟩, h1, h2, h3⟩ := st
    obtain ⟨xs, ys, zs, hqx, hqy, hqz, rfl⟩ := hg
    obtain ⟨its, rv, p, _⟩ := inv_K I hqx
    obtain ⟨its2, rv2, p2, _⟩ := inv_K I hqy
    obtain ⟨its3, rv3, p3, _⟩ := inv_K I hqz
    have D1 := draws_K (prog := X.prog) (w := X.w) (A := X.A.in1) (I.ok.hd hc) k1 i1 a n1 its.toArray
    have D2 := draws_K (prog := X.prog) (w := X.w) (A := X.A.in1) (I.ok.hd hc) k2 i2 b n2 its2.toArray
    have D3 := draws_K (prog := X.prog) (w := X.w) (A := X.A.in1) (I.ok.hd hc) k3 i3 c0 n3 its3.toArray
    have e : min (min xs.length ys.length) zs.length = min (min its.toArray.size its2.toArray.size) its3.toArray.size := by
      rw [List.size_toArray, List.size_toArray, List.size_toArray, rv.length, rv2.length, rv3.length]
    rw [e] at h1 h2 h3
    exact (GoesN.zip3 (elts := elts) (x1 := kk) (pos := tpos) S D1 D2 D3).stops s _ E ⟨hz, hTI, ⟨x0, y0, u0, hTO⟩, ⟨h1, p⟩, ⟨h2, p2⟩, ⟨h3, p3⟩⟩ fun h' tk hk htk =>
      I.turnedL (ch := [z, TI, TO, i1, i2, i3]) (fun c o hb q => hk c o (fun q' => hb (mem_skip2 q')) q) hf
  self := fun A i s Q E st h => wpAny_pyIter_zip st.1 h
def iZip3 (K : PySem.W.Frag) (ta : TA) : TI := fun σ H R => ta σ H fun vs H1 => ∃ k1 k2 k3 a b c xs ys zs, vs = [.ref a, .ref b, .ref c] ∧ SqK K H1 k1 a xs ∧ SqK K H1 k2 b ys ∧ SqK K H1 k3 c zs ∧ R (Itz3 K k1 k2 k3 a b c) H1
theorem vals3' {x y z : V} {us : List Value} (r : Vals [x, y, z] us) : ∃ u v w, us = [u, v, w] ∧ RelV x u ∧ RelV y v ∧ RelV z w := by
  cases r with
  | cons a r => cases r with
    | cons b r => cases r with
      | cons c r => cases r; exact ⟨_, _, _, rfl, a, b, c⟩
theorem pi_zip3 {e e2 e3 : Expr} {ta : TA} {p pos tpos : Pos} {elts : List Expr} {kk : Nat} (hg : Gl X "zip") (hm : X.mg "zip" = none) (ha : PA X [e, e2, e3] ta)
    (hs : starEach [e, e2, e3] X.env = (false, eval e X.env) :: starEach [e2, e3] X.env := by rfl) (hpl : (backTo pos (starEach [e2, e3] X.env)).any (·.1) = false := by rfl) :
    PI X (.Tuple elts kk tpos) (.Call (.Name "zip" p) [e, e2, e3] [] pos) (iZip3 X.K ta) := by
  refine ⟨fun pins s σ H R I h => ?_⟩
  refine Call_ (ld_blt I hg hm PyProof.Rows.boot_zip (PyProof.Rows.callWith_type1 (thn (ha.run pos pins s σ H _ I h) fun us s1 ⟨vs, H1, I1, r1, q1⟩ => ?_) hs hpl))
  obtain ⟨k1, k2, k3, a, b, c, xs, ys, zs, ex, hqx, hqy, hqz, q⟩ := q1
  subst ex
  obtain ⟨u1, u2, u3, rfl, r1', r2', r3'⟩ := vals3' r1
  cases (show u1 = Value.ref a from r1')
  cases (show u2 = Value.ref b from r2')
  cases (show u3 = Value.ref c from r3')
  obtain ⟨its, rv, p1, la⟩ := inv_K I1 hqx
  obtain ⟨its2, rv2, p2, lb⟩ := inv_K I1 hqy
  obtain ⟨its3, rv3, p3, lc⟩ := inv_K I1 hqz
  refine zip_begins3 (begins_K k1 a its.toArray) (begins_K k2 b its2.toArray) (begins_K k3 c its3.toArray) p1 p2 p3 fun h' hz hTI hTO g1 g2 g3 hsz hk => wpAny_pyIter_zip hz ?_
  have I2 : Inv X pins σ H1 { s1 with heap := h' } := I1.kept (t' := s1.toks) hk
  have fresh : ∀ c, c ∈ [s1.heap.objs.size + 5, s1.heap.objs.size + 3, s1.heap.objs.size + 4, s1.heap.objs.size, s1.heap.objs.size + 1, s1.heap.objs.size + 2] → FpOk X pins H1 c := fun c hcm => by
    have hle : s1.heap.objs.size ≤ c := by
      have e' : c = s1.heap.objs.size + 5 ∨ c = s1.heap.objs.size + 3 ∨ c = s1.heap.objs.size + 4 ∨ c = s1.heap.objs.size ∨ c = s1.heap.objs.size + 1 ∨ c = s1.heap.objs.size + 2 := by simpa using hcm
      rcases e' with z | z | z | z | z | z
      · rw [z]; exact Nat.le_add_right _ _
      · rw [z]; exact Nat.le_add_right _ _
      · rw [z]; exact Nat.le_add_right _ _
      · rw [z]; exact Nat.le_refl _
      · rw [z]; exact Nat.le_add_right _ _
      · rw [z]; exact Nat.le_add_right _ _
    exact I1.fpOk hle (I1.hok.fresh hle)
  refine ⟨s1.heap.objs.size + 5, [s1.heap.objs.size + 5, s1.heap.objs.size + 3, s1.heap.objs.size + 4, s1.heap.objs.size, s1.heap.objs.size + 1, s1.heap.objs.size + 2], _, _, H1, rfl, I2,
    turn_z3 (k1 := k1) (k2 := k2) (k3 := k3) (zip_sep3 (fp1 := [a]) (fp2 := [b]) (fp3 := [c]) (by simpa using la) (by simpa using lb) (by simpa using lc)) (Nat.ne_of_lt la) (Nat.ne_of_lt (Nat.lt_of_lt_of_le lb (Nat.le_succ _))) (Nat.ne_of_lt (Nat.lt_of_lt_of_le lc (Nat.le_add_right _ _))), ⟨hz, hTI, ⟨_, _, _, hTO⟩, itrK_new g1, itrK_new g2, itrK_new g3⟩, fresh, q⟩
def triples (xs ys zs : List PV) : List PV := List.zipWith (fun x (y : PV × PV) => .tup [x, y.1, y.2]) xs (List.zip ys zs)
def zipD3 (ds : PEnv → M (List PV)) : PEnv → M (List PV) := fun env st => (ds env st).bind fun ps st => match ps with
  | [p, q, o] => match still p, still q, still o with
    | some xs, some ys, some zs => .ok (triples xs ys zs) st
    | _, _, _ => .stuck
  | _ => .stuck
theorem rep3 {G : GC} {r : Loc} {H : Hp} {p q o : PV} {xs : List V} (h : RepL G r H [p, q, o] xs) : ∃ v w u, xs = [v, w, u] ∧ Rep G r H p v ∧ Rep G r H q w ∧ Rep G r H o u := by
  simp only [RepL] at h
  obtain ⟨v, ws, rfl, a, w, ws', rfl, b, u, ws'', rfl, c, rfl⟩ := h
  exact ⟨v, w, u, rfl, a, b, c⟩
theorem walks_z3 {G : GC} {r : Loc} {H : Hp} {k1 k2 k3 : SK} {a b c : Addr} {us ws ts : List V} {xs ys zs : List PV} (f1 : ∀ r' H', Evo r H r' H' → SqK G.K H' k1 a us) (f2 : ∀ r' H', Evo r H r' H' → SqK G.K H' k2 b ws) (f3 : ∀ r' H', Evo r H r' H' → SqK G.K H' k3 c ts)
    (l1 : RepL G r H xs us) (l2 : RepL G r H ys ws) (l3 : RepL G r H zs ts) : Walks G (Itz3 G.K k1 k2 k3 a b c) r H (triples xs ys zs) := by
  refine ⟨fun H => SqK G.K H k1 a us ∧ SqK G.K H k2 b ws ∧ SqK G.K H k3 c ts, fun i H v H' => ∃ T x y z, v = .ref T ∧ H T = none ∧ H' = upd H T (.tup [x, y, z]) ∧ us[i]? = some x ∧ ws[i]? = some y ∧ ts[i]? = some z, ?_, fun r' H' e => ⟨f1 _ _ e, f2 _ _ e, f3 _ _ e⟩, fun i r1 H1 st v H2 p e R y hp => ?_⟩
  · have e : (triples xs ys zs).length = min (min us.length ws.length) ts.length := by
      simp [triples, l1.len, l2.len, l3.len]
    rw [e]
    refine ⟨fun i H hi q => ?_, fun H q => ⟨us, ws, ts, q.1, q.2.1, q.2.2, rfl⟩, fun i H v H' hi q y => ?_⟩
    · have h1 : i < us.length := by omega
      have h2 : i < ws.length := by omega
      have h3 : i < ts.length := by omega
      exact ⟨us, ws, ts, us[i], ws[i], ts[i], q.1, q.2.1, q.2.2, by simp [h1], by simp [h2], by simp [h3]⟩
    · obtain ⟨T, x, y, z, h1, h2, h3, h4, h5, h6⟩ := y
      exact ⟨T, x, y, z, h1, h2, h3, h4 us q.1, h5 ws q.2.1, h6 ts q.2.2⟩
  · obtain ⟨T, x, y, z, rfl, nT, rfl, h1, h2, h3⟩ := y
    unfold triples at hp
    rw [List.getElem?_zipWith, List.zip, List.getElem?_zipWith] at hp
    cases q1 : xs[i]? with
    | none => rw [q1] at hp; cases hp
    | some a =>
      cases q2 : ys[i]? with
      | none => rw [q1, q2] at hp; cases hp
      | some b =>
        cases q3 : zs[i]? with
        | none => rw [q1, q2, q3] at hp; cases hp
        | some c =>
          rw [q1, q2, q3] at hp; cases hp
          obtain ⟨z1, e1, k1⟩ := l1.get q1
          obtain ⟨z2, e2, k2⟩ := l2.get q2
          obtain ⟨z3, e3, k3⟩ := l3.get q3
          rw [h1] at e1; cases e1
          rw [h2] at e2; cases e2
          rw [h3] at e3; cases e3
          exact ⟨fun c o h => by rw [upd_ne (ne_of_none h nT)]; exact h, Rep.newTup R nT (RepL.cons (Rep.evo e _ _ k1) (RepL.cons (Rep.evo e _ _ k2) (RepL.cons (Rep.evo e _ _ k3) RepL.nil)))⟩
theorem si_zip3 {e e2 e3 : Expr} {ta : TA} {ds : PEnv → M (List PV)} {p pos tpos : Pos} {elts : List Expr} {kk : Nat} (hg : Gl X "zip") (hm : X.mg "zip" = none) (ha : SA X W [e, e2, e3] ta ds)
    (hs : starEach [e, e2, e3] X.env = (false, eval e X.env) :: starEach [e2, e3] X.env := by rfl) (hpl : (backTo pos (starEach [e2, e3] X.env)).any (·.1) = false := by rfl) : SI X W (.Tuple elts kk tpos) (.Call (.Name "zip" p) [e, e2, e3] [] pos) (iZip3 X.K ta) (zipD3 ds) := by
  refine ⟨pi_zip3 hg hm ha.pa hs hpl, fun r s H env st R E Rl q => ?_⟩
  refine ha.so r s H env st _ E Rl (q.bind.imp fun ps st1 r1 H1 t1 R1 h1 vs hv => ?_)
  split at h1
  · rename_i p q o
    split at h1
    · rename_i xs ys zs hx hy hz
      obtain ⟨v, w, u, rfl, k, l, m⟩ := rep3 hv
      obtain ⟨a, us, k1, rfl, f1, l1⟩ := still_ok k hx
      obtain ⟨b, ws, k2, rfl, f2, l2⟩ := still_ok l hy
      obtain ⟨c, ts, k3, rfl, f3, l3⟩ := still_ok m hz
      exact ⟨k1, k2, k3, a, b, c, us, ws, ts, rfl, f1 _ _ Evo.refl, f2 _ _ Evo.refl, f3 _ _ Evo.refl, h1 r1 H1 Step.refl R1 _ (walks_z3 f1 f2 f3 l1 l2 l3)⟩
    · exact h1.elim
  · exact h1.elim
end CD

set_option Elab.async false
set_option linter.all false
set_option maxRecDepth 100000
set_option maxHeartbeats 2000000
namespace CD
open PySem PySem.Spec PyProof.Rows L2 RZ StX ClX HT
variable {X : Cx} {W : WX}
section
variable {prog : Program} {w : World} {A : Around} {E : Value → Shared → Prop} {s : Shared}
theorem sliceApplied_back {sl : Addr} {vl vu vs : Value} {n : Nat} {Q : Int × Int × Nat → Shared → Prop} (hs : s.heap.IsSliceOf sl vl vu vs) (pl : IsPart vl none) (pu : IsPart vu none) (ps : IsPart vs (some (-1)))
    (h : Q ((n : Int) - 1, -1, n) s) : wpAny (model prog w) A (Builtin.Slice.sliceApplied (.ref sl) (pure (n : Int))) Q E s := by
  obtain ⟨os, hos, hcs, hds⟩ := id hs
  unfold Builtin.Slice.sliceApplied Builtin.Slice.sliceFields
  refine wpAny_bind (wpAny_bind (wpAny_field hos hds (x := vl) rfl (wpAny_bind (wpAny_field hos hds (x := vu) rfl (wpAny_bind (wpAny_field hos hds (x := vs) rfl (wpAny_pure ?_)))))))
  refine wpAny_bind (slicePart_ ps ?_)
  show wpAny _ _ (if ((-1 : Int) == 0) = true then _ else _) _ _ s
  rw [if_neg (by decide)]
  refine wpAny_bind (slicePart_ pl (wpAny_bind (slicePart_ pu (wpAny_bind (wpAny_pure ?_)))))
  show wpAny _ _ (match Builtin.Slice.sliceAdjust none none (-1) (n : Int) with | (lo, hi) => pure (lo, (-1 : Int), Builtin.Slice.slicePlaces lo hi (-1))) _ _ s
  have e1 : Builtin.Slice.sliceAdjust none none (-1) (n : Int) = ((n : Int) - 1, -1) := by
    unfold Builtin.Slice.sliceAdjust; simp
  rw [e1]
  have e2 : Builtin.Slice.slicePlaces ((n : Int) - 1) (-1) (-1) = n := by
    unfold Builtin.Slice.slicePlaces
    simp
    split <;> omega
  show wpAny _ _ (pure ((n : Int) - 1, (-1 : Int), Builtin.Slice.slicePlaces ((n : Int) - 1) (-1) (-1))) _ _ s
  rw [e2]
  exact wpAny_pure h
theorem fm_congr {α β : Type} {f g : α → Option β} : ∀ {l : List α}, (∀ x ∈ l, f x = g x) → l.filterMap f = l.filterMap g
  | [], _ => rfl
  | a :: l, h => by
    rw [List.filterMap_cons, List.filterMap_cons, h a List.mem_cons_self, fm_congr fun x hx => h x (List.mem_cons_of_mem _ hx)]
theorem pick_back (xs : Array Value) : ((List.range xs.size).filterMap fun (m : Nat) => xs[(((xs.size : Nat) : Int) - 1 + (m : Int) * (-1)).toNat]?).toArray = xs.toList.reverse.toArray := by
  have e : (List.range xs.size).filterMap (fun (m : Nat) => xs[(((xs.size : Nat) : Int) - 1 + (m : Int) * (-1)).toNat]?) = (List.range xs.size).filterMap fun m => xs.toList.reverse.toArray[0 + m]? := by
    refine fm_congr fun m hm => ?_
    have hm : m < xs.size := List.mem_range.mp hm
    have : (((xs.size : Nat) : Int) - 1 + (m : Int) * (-1)).toNat = xs.size - 1 - m := by omega
    rw [this]
    simp
    rw [List.getElem?_reverse (by simpa using hm)]
    simp
  rw [e]
  have := pick_run xs.toList.reverse.toArray 0 xs.size
  rw [List.filterMap_map] at this
  have e2 : ((fun x => xs.toList.reverse.toArray[x]?) ∘ fun x => 0 + x) = fun m => xs.toList.reverse.toArray[0 + m]? := rfl
  rw [e2] at this
  rw [this]
  simp [List.take_of_length_le]
theorem getItem_tuple_back {t sl : Addr} {items : Array Value} {vl vu vs : Value} {Q : Value → Shared → Prop} (ht : IsTup s.heap t items) (hs : s.heap.IsSliceOf sl vl vu vs) (pl : IsPart vl none) (pu : IsPart vu none) (ps : IsPart vs (some (-1)))
    (h : Q (.ref s.heap.objs.size) { s with heap := s.heap.push { cls := .type "tuple", data := .seq items.toList.reverse.toArray } })
    (hsz : items.size ≤ sizeLine) : wpAny (model prog w) A (getItem (.ref t) (.ref sl)) Q E s := by
  have htake : sizeOk (.seq items.toList.reverse.toArray) := by
    show items.toList.reverse.toArray.size ≤ sizeLine
    rw [List.size_toArray, List.length_reverse, Array.length_toList]
    exact hsz
  obtain ⟨os, hos, hcs, hds⟩ := id hs
  have hTs : s.TypeIs (.ref sl) "slice" := ⟨os, hos, hcs⟩
  unfold getItem
  try with_reducible refine wpAny_holding ?_
  first | refine wpAny_bind (wpAny_pure ?_) | skip
  refine wpAny_bind (wpAny_sequenceKey ht.typeIs (by decide) ?_)
  refine wpAny_bind (wpAny_callSpecial?_slot (name := Str.ofString "__getitem__") ht.typeIs PyProof.Rows.slot_tuple_getitem
    (wpAny_call_entry PyProof.Rows.slot_tuple_getitem ht.typeIs entry_tuple_getitem ?_ (args_tuple_getitem _ _)))
  show wpAny _ _ (Builtin.Tuple.tupleItemsOf (.ref t) >>= _) _ _ s
  refine wpAny_bind (tupleItemsOf_ ht ?_)
  refine wpAny_bind (wpAny_typeOf hTs ?_)
  rw [if_pos (by decide)]
  refine wpAny_bind (sliceApplied_back hs pl pu ps ?_)
  have hno : ¬ ((((items.size : Nat) : Int) - 1 == 0 && (-1 : Int) == 1 && items.size == items.size) = true) := by simp
  show wpAny _ _ (if (((items.size : Nat) : Int) - 1 == 0 && (-1 : Int) == 1 && items.size == items.size) = true then _ else _) _ _ s
  rw [if_neg hno, pick_back]
  first
    | exact wpAny_bind (m := Builtin.Tuple.tupleExact _) (wpAny_newObj_type (wpAny_pure ⟨_, rfl, wpAny_pure h⟩) htake)
    | exact wpAny_bind (m := Builtin.Tuple.tupleExact _) (wpAny_newObj_type (wpAny_bind (wpAny_pure (wpAny_pure ⟨_, rfl, wpAny_pure h⟩))) htake)
    | exact wpAny_bind (wpAny_bind (m := Builtin.Tuple.tupleExact _) (wpAny_newObj_type (wpAny_pure (wpAny_pure ⟨_, rfl, wpAny_pure h⟩)) htake))
    | exact wpAny_bind (wpAny_bind (m := Builtin.Tuple.tupleExact _) (wpAny_newObj_type (wpAny_pure ⟨_, rfl, wpAny_pure h⟩) htake))
end
/-- xs[::-1], a list or a tuple -/
def tRevA (K : PySem.W.Frag) (te : TE) : TE := fun σ H Q => te σ H fun x H1 => ∃ a xs, x = .ref a ∧ ((SqL K H1 a xs ∧ ∀ p, H1 p = none → Q (.ref p) (upd H1 p (.lst xs.reverse))) ∨ (SqT K H1 a xs ∧ ∀ p, H1 p = none → Q (.ref p) (upd H1 p (.tup xs.reverse))))
theorem pe_revA {e : Expr} {te : TE} {k : Nat} {p1 p2 p3 pos : Pos} (he : PE X e te) : PE X (.Subscript e (.Slice none none (some (.UnaryOp .USub (.Constant (.int 1) k p1) p2)) p3) pos) (tRevA X.K te) := by
  refine ⟨fun pins s σ H Q I h => ?_⟩
  refine Subscript_ (thn (he.run pins s σ H _ I h) fun v s1 ⟨x, H1, I1, r1, q1⟩ => ?_)
  obtain ⟨a, xs, ex, q⟩ := q1
  subst ex
  cases r1
  have hst : PO X (some (.UnaryOp .USub (.Constant (.int 1) k p1) p2)) (tPart (tUn (rU fun i => .int (-i)) (tC (.int 1)))) := po_some (pe_un un_neg pe_int)
  refine wpAny_Slice (thn (po_none.run pins s1 σ H1 (fun o H2 => o = none ∧ H2 = H1) I1 ⟨rfl, rfl⟩) fun vl s2 ⟨l, H2, I2, pl, el, e2⟩ => ?_)
  subst el e2
  refine thn (po_none.run pins s2 σ H2 (fun o H3 => o = none ∧ H3 = H2) I2 ⟨rfl, rfl⟩) fun vu s3 ⟨u, H3, I3, pu, eu, e3⟩ => ?_
  subst eu e3
  refine thn (hst.run pins s3 σ H3 (fun o H4 => o = some (-1) ∧ H4 = H3) I3 ⟨1, rfl, -1, rfl, rfl, rfl⟩) fun vs s4 ⟨o, H4, I4, ps, eo, e4⟩ => ?_
  subst eo e4
  have I5 : Inv X pins σ H4 { s4 with heap := s4.heap.push { cls := .type "slice", data := .fields #[vl, vu, vs] } } := I4.kept (t' := s4.toks) fun b ob q => Heap.get?_push_of_some _ q
  rcases q with ⟨hx, q⟩ | ⟨hx, q⟩
  · obtain ⟨its, r, ht, hz⟩ := I5.list hx
    have hlen := r.length
    show wpAny (model X.prog X.w) X.A (subscriptTail e (.Slice none none (some (.UnaryOp .USub (.Constant (.int 1) k p1) p2)) p3) (.ref a) (.ref s4.heap.objs.size)) (EP X pins σ Q) X.xe { s4 with heap := s4.heap.push { cls := .type "slice", data := .fields #[vl, vu, vs] } }
    refine tail_any (ops := [.ref a, .ref s4.heap.objs.size]) ht.isList.typeIs (PySem.slot_list_getitem.lookup) ?_ (by with_unfolding_all rfl)
    refine wpAny_getItem_list_slice ht.isList (Heap.IsSliceOf.new _ vl vu vs) pl pu ps (by decide) ?_ (by rw [List.size_toArray]; omega)
    rw [PySem.W.krv_pick]
    refine ⟨.ref _, _, I5.laid (t' := s4.toks) (o := .lst xs.reverse) (fun b ob q => Heap.get?_push_of_some _ q) (Nat.le_refl _) ?_, rfl, q _ (I5.hok.fresh (Nat.le_refl _))⟩
    exact ⟨by rw [List.length_reverse]; exact hz, _, 0, r.reverse, Heap.get?_push_size _ rfl⟩
  · obtain ⟨its, r, ht, hz⟩ := I5.tuple hx
    have hlen := r.length
    show wpAny (model X.prog X.w) X.A (subscriptTail e (.Slice none none (some (.UnaryOp .USub (.Constant (.int 1) k p1) p2)) p3) (.ref a) (.ref s4.heap.objs.size)) (EP X pins σ Q) X.xe { s4 with heap := s4.heap.push { cls := .type "slice", data := .fields #[vl, vu, vs] } }
    refine tail_any (ops := [.ref a, .ref s4.heap.objs.size]) ht.typeIs (PyProof.Rows.slot_tuple_getitem.lookup) ?_ (by with_unfolding_all rfl)
    refine getItem_tuple_back ht (Heap.IsSliceOf.new _ vl vu vs) pl pu ps ?_ (by rw [List.size_toArray]; omega)
    refine ⟨.ref _, _, I5.laid (t' := s4.toks) (o := .tup xs.reverse) (fun b ob q => Heap.get?_push_of_some _ q) (Nat.le_refl _) ?_, rfl, q _ (I5.hok.fresh (Nat.le_refl _))⟩
    exact ⟨by rw [List.length_reverse]; exact hz, _, r.reverse, IsTup.new _ _⟩
def revD (d : DE) : DE := fun env st => (d env st).bind fun p st => match tupOf p, sqlOf st p with
  | some xs, _ => .ok (.tup xs.reverse) st
  | none, some xs => .ok (.lst xs.reverse) st
  | none, none => .stuck
theorem se_rev {e : Expr} {te : TE} {d : DE} {k : Nat} {p1 p2 p3 pos : Pos} (he : SE X W e te d) : SE X W (.Subscript e (.Slice none none (some (.UnaryOp .USub (.Constant (.int 1) k p1) p2)) p3) pos) (tRevA X.K te) (revD d) := by
  refine ⟨pe_revA he.pe, fun r s H env st Q E R h => he.so r s H env st _ E R (h.bind.imp fun p st1 r1 H1 t1 R1 h1 x hx => ?_)⟩
  split at h1
  · rename_i xs hp
    obtain ⟨a, vs, rfl, f, l⟩ := tupOf_ok hx hp
    exact ⟨a, vs, rfl, .inr ⟨f.sq, fun p n => h1 r1 _ (Step.new1 n) (R1.new1 n) _ (Rep.newTup R1 n l.reverse)⟩⟩
  · rename_i xs _ hp
    obtain ⟨a, vs, rfl, f, l⟩ := sqlOf_ok R1 hx hp
    exact ⟨a, vs, rfl, .inl ⟨f, fun p n => h1 r1 _ (Step.new1 n) (R1.new1 n) _ (Rep.newLst R1 n l.reverse)⟩⟩
  · exact h1.elim
/-- list(range(n)), a place -/
def lrgD (d : DE) : DE := fun env st => (d env st).bind fun p st => match p with
  | .int n => if 0 ≤ n ∧ n ≤ 10000 then allocL ((List.range n.toNat).map fun i => .int (i : Nat)) st else .stuck
  | _ => .stuck
theorem rgV_rep {G : GC} {r : Loc} {H : Hp} {n : Int} : RepL G r H ((List.range n.toNat).map fun i => PV.int (i : Nat)) (rgV 0 n) := by
  unfold rgV
  refine RepL.of_get (by simp) fun i x y e1 e2 => ?_
  rw [List.getElem?_map] at e1 e2
  by_cases hi : i < n.toNat
  · rw [List.getElem?_range hi] at e1
    rw [List.getElem?_range (by omega)] at e2
    cases e1; cases e2
    simp only [Rep]
    congr 1; omega
  · rw [List.getElem?_eq_none (by simp; omega)] at e1; cases e1
theorem se_listRg {a : Expr} {ta : TE} {d : DE} {p pos p2 pos2 : Pos} (hc : X.calm = true) (hg : Gl X "list") (hm : X.mg "list" = none) (hg2 : Gl X "range") (hm2 : X.mg "range" = none) (ha : SE X W a ta d)
    (na : starEach [.Call (.Name "range" p2) [a] [] pos2] X.env = (false, eval (.Call (.Name "range" p2) [a] [] pos2) X.env) :: starEach [] X.env := by rfl) (na2 : starEach [a] X.env = (false, eval a X.env) :: starEach [] X.env := by rfl) :
    SE X W (.Call (.Name "list" p) [.Call (.Name "range" p2) [a] [] pos2] [] pos) (tLstRg (tRg1 ta)) (lrgD d) := by
  refine ⟨pe_listRg hc hg hm (prg_1 hg2 hm2 ha.pe na2) na, fun r s H env st Q E R h => ha.so r s H env st _ E R (h.bind.imp fun p st1 r1 H1 t1 R1 h1 x hx => ?_)⟩
  split at h1
  · rename_i n
    split at h1
    · rename_i hn
      simp only [Rep] at hx
      refine ⟨n, hx, RgOk.of_le (Int.le_refl 0) (by omega) (by omega) hn.1, fun q nq => ?_⟩
      exact alloc_ok R1 rgV_rep h1 q nq
    · exact h1.elim
  · exact h1.elim
/-- a branch that is never reached -/
def stuckD : DS := fun _ _ => .stuck
theorem ss_never {st : Stmt} : SS X W st tNever stuckD := ⟨ps_never, fun r s H env sto D E R h => h.elim⟩
theorem sss_never {sts : List Stmt} : SSs X W sts tNever stuckD := ⟨pss_never, fun r s H env sto D E R h => h.elim⟩
/-- a constant int of a class -/
structure CIntF (G : GC) (c f : Str) (i : Int) : Prop where
  ex : ∀ C, G.mg c = some (.ref C) → ∃ mc t, CRead G.K C mc ∧ CVal G.K C mc f (.int i) (.int i t)
theorem se_cint {c f : Str} {i : Int} {C : Addr} {p pos : Pos} (F : CIntF (gc X) c f i) (hm : X.mg c = some (.ref C)) (hg : Gl X c := by rfl) (hd : (c == ("__debug__" : Str)) = false := by decide)
    (hb : attributeBase (.Name c p) f X.env (eval (.Name c p) X.env) = eval (.Name c p) X.env := by rfl) : SE X W (.Attribute (.Name c p) f pos) (tCVal X.K (tC (.ref C)) f) (dC (.int i)) := by
  refine ⟨pe_cval (pe_glob hg hm rfl hd) hb, fun r s H env st Q E R h => ?_⟩
  obtain ⟨mc, t, h1, h2⟩ := F.ex C hm
  exact ⟨C, mc, _, _, rfl, h1, h2, h r H Step.refl R _ rep_int⟩
end CD

set_option Elab.async false
set_option linter.all false
set_option maxRecDepth 100000
set_option maxHeartbeats 2000000
namespace CD
open PySem PySem.Spec PyProof.Rows L2 RZ StX ClX
variable {X : Cx} {W : WX}
theorem takes_no {X : Cx} : L2N.Takes X WF := fun u s' z => by
  obtain ⟨_, _, _, _, _, _, _, _, _, _, _, _, _, _, _, _, w⟩ := z
  exact w.elim
/-- a, b = x, y -/
def parD (i j : Nat) (ds : PEnv → M (List PV)) : DS := fun env st => (tagE env (ds env st)).bind fun ps st => match ps with
  | [p, q] => .ok (.nx ((env.set i (some p)).set j (some q))) st
  | _ => .stuck
theorem ss_par {i j : Nat} {x y : Str} {a b : Expr} {ta : TA} {ds : PEnv → M (List PV)} {px py pt pos : Pos} {kt k2 pt2} (hc : X.calm = true) (hN : X.N.Nodup) (ha : SA X W [a, b] ta ds) (hi : X.N[i]? = some x := by rfl) (hj : X.N[j]? = some y := by rfl) (hij : i ≠ j := by decide)
    (hx : X.env.scope.names.lookup x = some .local := by rfl) (hy : X.env.scope.names.lookup y = some .local := by rfl)
    (hw : swappedStores [.Tuple [.Name x px, .Name y py] kt pt] (.Tuple [a, b] k2 pt2) X.env = pure (some [x, y]) := by rfl)
    (hs : swapsWithSole [.Tuple [.Name x px, .Name y py] kt pt] (.Tuple [a, b] k2 pt2) pos.line X.env = pure false := by rfl) :
    SS X W (.Assign [.Tuple [.Name x px, .Name y py] kt pt] (.Tuple [a, b] k2 pt2) pos) (tPar i j ta) (parD i j ds) := by
  refine ⟨ps_par hc hN hi hj hij hx hy ha.pa hw hs, fun r s H env st D E R h => ?_⟩
  refine ha.so r s H env st _ E R ((PostS.bind E h).imp fun ps st1 r1 H1 t1 R1 h1 vs hv => ?_)
  split at h1
  · rename_i p q
    obtain ⟨v, w, rfl, kv, kw⟩ := rep2 hv
    exact ⟨v, w, rfl, h1 r1 H1 _ Step.refl R1 (((E.step t1).set kv).set kw)⟩
  · exact h1.elim
theorem FnD.self {P : Program} {w : World} {G : GC} {base : Heap} {k : Nat} {f : Addr} {fd : FuncData} {ps : List Str} {F : List PV → M PV} (h : FnD P w G base k f fd ps F) : FnD P w G base k f fd ps F := h
theorem tk_of {P : Program} {w : World} {K : PySem.W.Frag} {mg : Str → Option Value} {base : Heap} {N : List Str} {qual : Str} {sc : Scope} {f : Addr} {cdv : Value} {A : Around} {outer : List Env} {s : Shared} {H : Hp} {E : XK} :
    L2N.Takes (cxOf (L2N.CX P w) P w K mg base N qual sc f cdv A outer s H E) (fun cls d _ H => E cls d H) := L2N.takes_of rfl rfl rfl rfl
theorem hp_of {P : Program} {w : World} {K : PySem.W.Frag} {mg : Str → Option Value} {base : Heap} {N : List Str} {qual : Str} {sc : Scope} {f : Addr} {cdv : Value} {A : Around} {outer : List Env} {s : Shared} {H : Hp} {E : XK} :
    PassesOwn (model P w) (cxOf (L2N.CX P w) P w K mg base N qual sc f cdv A outer s H E).A (cxOf (L2N.CX P w) P w K mg base N qual sc f cdv A outer s H E).env (cxOf (L2N.CX P w) P w K mg base N qual sc f cdv A outer s H E).xe :=
  L2.passes_of (X := cxOf (L2N.CX P w) P w K mg base N qual sc f cdv A outer s H E) rfl
/-- a def by its body, all that its rules ask -/
theorem def_go {P : Program} {w : World} {G : GC} {base : Heap} {x qual : Str} {st : Stmt} {f : Addr} {fd : FuncData} {N ps : List Str} {k : Nat} {d : DS} (F : Fun G.K x qual st f fd) (S : FnScope N ps (defScope st))
    (hb : ∀ (cdv : Value) (A : Around) (outer : List Env) (s : Shared) (H : Hp) (E : XK), Room k (cxOf (L2N.CX P w) P w G.K G.mg base N qual (defScope st) f cdv A outer s H E).A →
      L2N.Takes (cxOf (L2N.CX P w) P w G.K G.mg base N qual (defScope st) f cdv A outer s H E) (fun cls d _ H => E cls d H) →
      PassesOwn (model P w) (cxOf (L2N.CX P w) P w G.K G.mg base N qual (defScope st) f cdv A outer s H E).A (cxOf (L2N.CX P w) P w G.K G.mg base N qual (defScope st) f cdv A outer s H E).env (cxOf (L2N.CX P w) P w G.K G.mg base N qual (defScope st) f cdv A outer s H E).xe →
      ∃ t, SSs (cxOf (L2N.CX P w) P w G.K G.mg base N qual (defScope st) f cdv A outer s H E) (fun cls d _ H => E cls d H) (defBody st) t d) : FnD P w G base (k + 1) f fd ps (bodyF N.length d) :=
  def_ok F S fun cdv A outer s H E hr => hb cdv A outer s H E hr tk_of hp_of
end CD

set_option Elab.async false
set_option linter.all false
set_option maxRecDepth 100000
set_option maxHeartbeats 2000000
namespace CD
open PySem PySem.Spec PyProof.Rows L2 RZ StX ClX
/-! ### the law's own end -/
def spL (K : PySem.W.Frag) : Sp := fun vs H Q _ => ∃ (a : Addr) (ns : List Int), vs = [.ref a] ∧ ns.length ≤ 63 ∧ SqL K H a (ns.map V.int) ∧ ∀ H', Q (.bl true) H'
theorem repInts {G : GC} {r : Loc} {H : Hp} : ∀ ns : List Int, RepL G r H (ns.map PV.int) (ns.map V.int)
  | [] => RepL.nil
  | n :: ns => RepL.cons rep_int (repInts ns)
theorem law_fn {P : Program} {w : World} {K : PySem.W.Frag} {mg : Str → Option Value} {base : Heap} {k : Nat} {f : Addr} {fd : FuncData} {F : List PV → M PV} (h : FnD P w ⟨K, mg⟩ base k f fd ["script"] F)
    (ht : ∀ ns : List Int, ns.length ≤ 63 → ∃ st, F [.rls (ns.map .int)] [] = .ok (.bl true) st) : FnOk P w K mg base (L2N.CX P w) k f fd ["script"] (spL K) := by
  refine FnOk.imp h fun vs H Q E q => ?_
  obtain ⟨a, ns, rfl, hl, hS, q⟩ := q
  obtain ⟨st, e⟩ := ht ns hl
  have na : ∀ b : Addr, ¬ av ⟨[], []⟩ b := fun b z => by
    rcases z with z | z
    · cases z
    · cases z
  refine ⟨rfl, ⟨[], []⟩, [.rls (ns.map .int)], [], RepL.cons ?_ RepL.nil, ?_, ?_⟩
  · simp only [Rep]
    refine ⟨a, ns.map V.int, rfl, ?_, repInts ns⟩
    rcases hS with hS | hS
    · exact .inl ⟨hS, na a⟩
    · exact .inr hS
  · exact ⟨rfl, fun l a e => by simp at e, fun l c e => by simp at e, fun l l' a e => by simp at e, (fun a m => nomatch m), (fun a z m => nomatch m)⟩
  · rw [e]
    intro r' H' t R' v k
    simp only [Rep] at k
    subst k
    exact q H'
theorem cx_no {P : Program} {w : World} {o : List Env} {H : Hp} {s : Shared} {e : Value} {s' : Shared} (h : L2N.CX P w o H s (fun _ _ _ => False) e s') : False := by
  obtain ⟨_, _, _, _, _, _, _, _, _, _, _, _, z⟩ := h
  exact z
/-! ### what the text tells, from what it says -/
theorem kit_self {K : PySem.W.Frag} {C : Addr} : PySem.W.kitOne K (.ref C) (.ref C) = some true := by
  unfold PySem.W.kitOne; rw [if_pos (beq_self_eq_true _)]
theorem kit_ob {K : PySem.W.Frag} {C : Addr} {b : BT} (h : PySem.W.subIn K (.ref C) (.type b.nm) = some false) : PySem.W.kitOne K (.ref C) (.type b.nm) = some false := by
  unfold PySem.W.kitOne
  rw [if_neg (show ¬ ((Value.ref C == Value.type b.nm) = true) from Bool.false_ne_true)]
  unfold PySem.W.kitCls
  dsimp only
  rw [if_pos (by cases b <;> decide +kernel)]
  exact h
theorem kit_bo {K : PySem.W.Frag} {C : Addr} {b : BT} (c : PySem.W.isClsIn K C = true) (t : PySem.W.typeIn K (.ref C) = some (.type "type")) (h : PySem.W.subIn K (.type b.nm) (.ref C) = some false) : PySem.W.kitOne K (.type b.nm) (.ref C) = some false := by
  unfold PySem.W.kitOne
  rw [if_neg (show ¬ ((Value.type b.nm == Value.ref C) = true) from Bool.false_ne_true)]
  unfold PySem.W.kitCls
  dsimp only
  rw [show (PySem.W.clsIn K C).isSome = true from c, t, if_pos (by rw [beq_self_eq_true]; rfl)]
  exact h
structure ClsT (K : PySem.W.Frag) (C : Addr) : Prop where
  pg : PySem.W.plainGet K C Str.empty = true
  hd : PySem.W.hasDictIn K C = true
  po : PySem.W.plainOver K C = true
  sa : PySem.W.findIn K (.ref C) "__setattr__" = some (some (.builtin "object.__setattr__"))
  mkz : PySem.W.makesIn K C = true
  kc : PySem.W.keepIn K (.ref C) = true
  cl : PySem.W.findIn K (.ref C) "__class__" = some (some (.builtin "object.__class__"))
  mo : PySem.W.mroIn K C (.type "object") = some true
  sp : PySem.W.specialIn K (.builtin "object.__class__") "__get__" = some (some (.builtin "getset_descriptor.__get__"))
  tk : PySem.W.takesIn K (.builtin "object.__class__") = some true
  ob : ∀ b : BT, PySem.W.kitOne K (.ref C) (.type b.nm) = some false
  bo : ∀ b : BT, PySem.W.kitOne K (.type b.nm) (.ref C) = some false
section
variable {K : PySem.W.Frag} {mg : Str → Option Value} {c : Str} {C : Addr}
theorem ref_of {C' : Addr} (m : mg c = some (.ref C)) (m' : mg c = some (.ref C')) : C' = C := by
  rw [m] at m'; cases m'; rfl
theorem ClsT.cls (t : ClsT K C) : Cls K C := ⟨t.pg, t.hd, t.po, t.sa⟩
theorem ClsT.isi (t : ClsT K C) (m : mg c = some (.ref C)) : IsiF ⟨K, mg⟩ c :=
  ⟨fun D h => by rw [ref_of m h]; exact ⟨t.cls, t.cl, t.mo⟩, t.sp, t.tk, fun D b h => by rw [ref_of m h]; exact t.ob b, fun D b h => by rw [ref_of m h]; exact t.bo b⟩
theorem ClsT.isiP (m : mg c = some (.ref C)) : IsiP ⟨K, mg⟩ c c true := ⟨fun D D' h h' => by rw [ref_of m h, ref_of m h']; exact kit_self⟩
theorem ClsT.fld (t : ClsT K C) (m : mg c = some (.ref C)) {f : Str} (n : PySem.W.findIn K (.ref C) f = some none) : FldF ⟨K, mg⟩ c f := ⟨fun D h => by rw [ref_of m h]; exact t.cls, fun D h => by rw [ref_of m h]; exact n⟩
theorem ClsT.init (t : ClsT K C) {g : Addr} (a : PySem.W.findIn K (.ref C) "__init__" = some (some (.ref g))) (i : PySem.W.isFn K (.ref g) = true) : Mk K C g := ⟨t.mkz, a, i, t.kc⟩
theorem ClsT.prop (t : ClsT K C) (m : mg c = some (.ref C)) {f : Str} {p g : Addr} {rest : List Value} (a : PySem.W.findIn K (.ref C) f = some (some (.ref p))) (b : PySem.W.specialIn K (.ref p) "__get__" = some (some (.builtin "property.__get__")))
    (d : PySem.W.takesIn K (.ref p) = some true) (e : PySem.W.recIn K p "property" = some (.ref g :: rest)) : PropF ⟨K, mg⟩ c f g := ⟨fun D h => by rw [ref_of m h]; exact ⟨t.cls, p, a, b, d, rest, e⟩⟩
theorem ClsT.spec (m : mg c = some (.ref C)) {n : Str} {g : Addr} (a : PySem.W.findIn K (.ref C) n = some (some (.ref g))) (i : PySem.W.isFn K (.ref g) = true) : SpecF ⟨K, mg⟩ c n g := ⟨fun D h => by rw [ref_of m h]; exact a, i⟩
theorem ClsT.call (m : mg c = some (.ref C)) {g : Addr} (a : PySem.W.findIn K (.ref C) "__call__" = some (some (.ref g))) (i : PySem.W.isFn K (.ref g) = true) (j : PySem.W.fnIn K g = true) : CallF ⟨K, mg⟩ c g := ⟨fun D h => by rw [ref_of m h]; exact a, i, j⟩
theorem ClsT.cint (m : mg c = some (.ref C)) {f : Str} {i : Int} {t : Tok} {mc : Value} (r : PySem.W.readsIn K C mc = true) (ga : PySem.W.specialIn K (.ref C) "__getattribute__" = some (some (.builtin "type.__getattribute__")))
    (v : PySem.W.findCls K (.ref C) mc f = some (.val (.int i t))) : CIntF ⟨K, mg⟩ c f i := ⟨fun D h => by rw [ref_of m h]; exact ⟨mc, t, ⟨r, ga⟩, ⟨v, t, rfl⟩⟩⟩
end
end CD

set_option Elab.async false
set_option linter.all false
set_option maxRecDepth 100000
set_option maxHeartbeats 2000000
namespace CD
open PySem L2
/-! ### loops and comprehensions, by values alone -/
/-- a comprehension by an invariant: I i acc st ahead of item i -/
theorem lcL_inv {g : PV → PEnv → M PEnv} {t : PEnv → M Bool} {e : DE} {env : PEnv} (I : Nat → List PV → Store → Prop) : ∀ (xs : List PV) (k : Nat) (acc : List PV) (st : Store), acc.length + xs.length ≤ 100000 → I k acc st →
    (∀ (i : Nat) (x : PV) (acc : List PV) (st : Store), xs[i]? = some x → I (k + i) acc st → ∃ env1 st1, g x env st = .ok env1 st1 ∧
      ((∃ st2 p st3, t env1 st1 = .ok true st2 ∧ e env1 st2 = .ok p st3 ∧ I (k + i + 1) (acc ++ [p]) st3) ∨ ∃ st2, t env1 st1 = .ok false st2 ∧ I (k + i + 1) acc st2)) →
    ∃ acc' st', lcL g t e xs acc env st = .ok acc' st' ∧ I (k + xs.length) acc' st'
  | [], k, acc, st, _, h0, _ => ⟨acc, st, rfl, h0⟩
  | x :: xs, k, acc, st, hl, h0, hs => by
    have hz : acc.length < sizeLine := by
      have : (100000 : Nat) < sizeLine := by decide
      simp at hl; omega
    obtain ⟨env1, st1, e1, h⟩ := hs 0 x acc st rfl h0
    have sh : ∀ (i : Nat) (y : PV) (acc : List PV) (st : Store), xs[i]? = some y → I (k + 1 + i) acc st → ∃ env1 st1, g y env st = .ok env1 st1 ∧
      ((∃ st2 p st3, t env1 st1 = .ok true st2 ∧ e env1 st2 = .ok p st3 ∧ I (k + 1 + i + 1) (acc ++ [p]) st3) ∨ ∃ st2, t env1 st1 = .ok false st2 ∧ I (k + 1 + i + 1) acc st2) := fun i y acc st hy hi => by
      have := hs (i + 1) y acc st (by simpa using hy) (by rw [show k + (i + 1) = k + 1 + i by omega]; exact hi)
      rw [show k + (i + 1) + 1 = k + 1 + i + 1 by omega] at this
      exact this
    rcases h with ⟨st2, p, st3, e2, e3, h3⟩ | ⟨st2, e2, h3⟩
    · obtain ⟨a, c, h4, h5⟩ := lcL_inv I xs (k + 1) (acc ++ [p]) st3 (by simp at hl ⊢; omega) h3 sh
      refine ⟨a, c, ?_, by rw [show k + (x :: xs).length = k + 1 + xs.length by simp; omega]; exact h5⟩
      unfold lcL; rw [e1]; simp only [Res.bind]; rw [e2]; simp only [Res.bind, if_true]; rw [e3]; simp only [Res.bind]; rw [if_pos hz]; exact h4
    · obtain ⟨a, c, h4, h5⟩ := lcL_inv I xs (k + 1) acc st2 (by simp at hl ⊢; omega) h3 sh
      refine ⟨a, c, ?_, by rw [show k + (x :: xs).length = k + 1 + xs.length by simp; omega]; exact h5⟩
      unfold lcL; rw [e1]; simp only [Res.bind]; rw [e2]; simp only [Res.bind, if_false, Bool.false_eq_true]; exact h4
/-- a comprehension that reads alone: the items under f -/
theorem lcL_map {g : PV → PEnv → M PEnv} {t : PEnv → M Bool} {e : DE} {f : PV → PV} {env : PEnv} {st : Store} {xs : List PV} (hl : xs.length ≤ 100000)
    (hs : ∀ x ∈ xs, ∃ env1, g x env st = .ok env1 st ∧ t env1 st = .ok true st ∧ e env1 st = .ok (f x) st) : lcL g t e xs [] env st = .ok (xs.map f) st := by
  obtain ⟨a, c, h, h1, h3⟩ := lcL_inv (g := g) (t := t) (e := e) (env := env) (fun i acc s => s = st ∧ acc = (xs.take i).map f) xs 0 [] st (by simpa using hl) ⟨rfl, by simp⟩ (fun i x acc s hx hi => by
    obtain ⟨rfl, ha⟩ := hi
    obtain ⟨env1, e1, e2, e3⟩ := hs x (List.mem_of_getElem? hx)
    refine ⟨env1, _, e1, .inl ⟨_, _, _, e2, e3, rfl, ?_⟩⟩
    rw [Nat.zero_add] at ha ⊢
    rw [List.take_add_one, hx, List.map_append, ha]; rfl)
  rw [h, h3, h1]
  simp
/-- a for loop by an invariant, nothing returned on the way -/
theorem forL_inv {g : PV → PEnv → M PEnv} {b : DS} (I : Nat → PEnv → Store → Prop) : ∀ (xs : List PV) (k : Nat) (env : PEnv) (st : Store), I k env st →
    (∀ (i : Nat) (x : PV) (env : PEnv) (st : Store), xs[i]? = some x → I (k + i) env st → ∃ env1 st1 e2 s2, g x env st = .ok env1 st1 ∧ b env1 st1 = .ok (.nx e2) s2 ∧ I (k + i + 1) e2 s2) →
    ∃ env' st', forL g b xs env st = .ok (.nx env') st' ∧ I (k + xs.length) env' st'
  | [], k, env, st, h0, _ => ⟨env, st, rfl, h0⟩
  | x :: xs, k, env, st, h0, hs => by
    obtain ⟨env1, st1, e2, s2, h1, h2, h3⟩ := hs 0 x env st rfl h0
    obtain ⟨a, c, h4, h5⟩ := forL_inv I xs (k + 1) e2 s2 h3 fun i y env st hy hi => by
      have := hs (i + 1) y env st (by simpa using hy) (by rw [show k + (i + 1) = k + 1 + i by omega]; exact hi)
      rw [show k + (i + 1) + 1 = k + 1 + i + 1 by omega] at this
      exact this
    refine ⟨a, c, ?_, by rw [show k + (x :: xs).length = k + 1 + xs.length by simp; omega]; exact h5⟩
    unfold forL; rw [h1]; simp only [tagE, Res.bind]; rw [h2]; exact h4
/-- the while loop has one answer -/
theorem whileN_mono {c : PEnv → M Bool} {b : DS} : ∀ (n m : Nat) (env : PEnv) (st : Store), whileN c b n env st ≠ .stuck → n ≤ m → whileN c b m env st = whileN c b n env st
  | 0, _, _, _, h, _ => absurd rfl h
  | n + 1, 0, _, _, _, hm => absurd hm (by omega)
  | n + 1, m + 1, env, st, h, hm => by
    unfold whileN at h ⊢
    cases q : tagE env (c env st) with
    | stuck => rw [q] at h; exact absurd rfl h
    | exc e v s => rfl
    | ok t s1 =>
      rw [q] at h
      simp only [Res.bind] at h ⊢
      cases t with
      | false => rfl
      | true =>
        simp only [if_true] at h ⊢
        cases q2 : b env s1 with
        | stuck => rfl
        | exc e v s => rfl
        | ok fl s2 =>
          rw [q2] at h
          cases fl with
          | nx e2 => exact whileN_mono n m e2 s2 h (by omega)
          | ct e2 => exact whileN_mono n m e2 s2 h (by omega)
          | bk e2 => rfl
          | rt v => rfl
theorem whileD_eq {c : PEnv → M Bool} {b : DS} {n : Nat} {env : PEnv} {st : Store} {r : Res Flow} (h : whileN c b n env st = r) (hr : r ≠ .stuck) : whileD c b env st = r := by
  have ex : ∃ n, whileN c b n env st ≠ .stuck := ⟨n, by rw [h]; exact hr⟩
  unfold whileD
  rw [dif_pos ex]
  have hc := ex.choose_spec
  rcases Nat.le_total ex.choose n with q | q
  · rw [← whileN_mono _ _ _ _ hc q, h]
  · have h2 : whileN c b n env st ≠ .stuck := by rw [h]; exact hr
    rw [whileN_mono _ _ _ _ h2 q, h]
/-- a while loop by an invariant and a measure, nothing returned on the way -/
theorem whileD_inv {c : PEnv → M Bool} {b : DS} (I : Nat → PEnv → Store → Prop) : ∀ (m : Nat) (env : PEnv) (st : Store), I m env st →
    (∀ (m : Nat) (env : PEnv) (st : Store), I m env st → ∃ t st1, c env st = .ok t st1 ∧ ((t = false ∧ I 0 env st1 ∧ True) ∨ (t = true ∧ ∃ e2 s2 m', b env st1 = .ok (.nx e2) s2 ∧ m' < m ∧ I m' e2 s2))) →
    ∃ env' st' m', whileD c b env st = .ok (.nx env') st' ∧ I m' env' st' := by
  intro m
  induction m using Nat.strongRecOn with
  | ind m ih =>
    intro env st h0 hs
    obtain ⟨t, st1, hc, h⟩ := hs m env st h0
    rcases h with ⟨rfl, h, _⟩ | ⟨rfl, e2, s2, m', hb, hm, h⟩
    · refine ⟨env, st1, 0, whileD_eq (n := 1) ?_ (by simp), h⟩
      unfold whileN; rw [hc]; simp [tagE, Res.bind]
    · obtain ⟨env', st', m2, h3, h4⟩ := ih m' hm e2 s2 h hs
      have : ∃ n, whileN c b n e2 s2 = .ok (.nx env') st' := by
        unfold whileD at h3
        split at h3
        · exact ⟨_, h3⟩
        · cases h3
      obtain ⟨n, hn⟩ := this
      refine ⟨env', st', m2, whileD_eq (n := n + 1) ?_ (by simp), h4⟩
      unfold whileN; rw [hc]; simp only [tagE, Res.bind, if_true]; rw [hb]; exact hn
/-! ### steps by values -/
theorem seqOf_loc {st : Store} {l : Nat} {xs : List PV} (h : st[l]? = some (.lst xs)) : seqOf st (.loc l) = some xs := by
  simp [seqOf, tupOf, sqlOf, lstOf, h]
theorem ix_ok {d e : DE} {env : PEnv} {st : Store} {l : Nat} {xs : List PV} {i : Int} {v : PV} (hd : d env st = .ok (.loc l) st) (he : e env st = .ok (.int i) st) (h : st[l]? = some (.lst xs)) (hv : atI xs i = some v) : d2 ixD d e env st = .ok v st := by
  unfold d2
  rw [hd]; simp only [Res.bind]; rw [he]; simp only [Res.bind]
  unfold ixD
  rw [seqOf_loc h]; simp only [hv]
theorem ixN_nat {n k : Nat} (h : k < n) : ixN n (k : Int) = some k := by
  unfold ixN
  rw [if_pos (by omega), if_pos (by omega)]
  simp
theorem atI_nat' {α : Type} {xs : List α} {k : Nat} {v : α} (h : xs[k]? = some v) : atI xs (k : Int) = some v := by
  unfold atI
  rw [ixN_nat (lt_of_get h)]
  exact h
theorem gIx_ok {d e : DE} {env : PEnv} {st : Store} {l k : Nat} {xs : List PV} {i : Int} {v : PV} (hd : d env st = .ok (.loc l) st) (he : e env st = .ok (.int i) st) (h : st[l]? = some (.lst xs)) (hi : i = (k : Nat)) (hk : k < xs.length) : noX (gIx d e v env st) = .ok env (st.set l (.lst (xs.set k v))) := by
  unfold gIx
  rw [hd]; simp only [Res.bind]; rw [he]; simp only [Res.bind]
  subst hi
  unfold setI
  have hl : locOf st (.loc l) = some (l, xs) := by simp [locOf, h]
  simp only [hl, ixN_nat hk, Res.bind, noX]
theorem len_ok {d : DE} {env : PEnv} {st : Store} {l : Nat} {xs : List PV} (hd : d env st = .ok (.loc l) st) (h : st[l]? = some (.lst xs)) : callD lenF (dCons d dNil) env st = .ok (.int xs.length) st := by
  unfold callD dCons dNil
  rw [hd]; simp only [Res.bind]
  unfold lenF
  simp only [seqOf_loc h]
theorem var_ok {env : PEnv} {st : Store} {i : Nat} {p : PV} (h : env[i]? = some (some p)) : dV i env st = .ok p st := by
  unfold dV; rw [h]
theorem int2_ok {f : Int → Int → PV} {C : Int → Int → Prop} [∀ i j, Decidable (C i j)] {d e : DE} {env : PEnv} {st : Store} {a b : Int} (hd : d env st = .ok (.int a) st) (he : e env st = .ok (.int b) st) (h : C a b) : d2 (int2 C f) d e env st = .ok (f a b) st := by
  unfold d2
  rw [hd]; simp only [Res.bind]; rw [he]; simp only [Res.bind, int2, iteM, if_pos h, okM]
theorem add_ok {d e : DE} {env : PEnv} {st : Store} {a b : Int} (hd : d env st = .ok (.int a) st) (he : e env st = .ok (.int b) st) : d2 addD d e env st = .ok (.int (a + b)) st := by
  have := int2_ok (f := fun i j => .int (i + j)) (C := fun _ _ => True) hd he trivial
  unfold d2 at this ⊢
  rw [hd] at this ⊢; simp only [Res.bind] at this ⊢; rw [he] at this ⊢; exact this
theorem mul_ok {d e : DE} {env : PEnv} {st : Store} {a b : Int} (hd : d env st = .ok (.int a) st) (he : e env st = .ok (.int b) st) (h : CMulW a b) : d2 mulD d e env st = .ok (.int (a * b)) st := by
  have := int2_ok (f := fun i j => .int (i * j)) (C := CMulX) hd he (.inl h)
  unfold d2 at this ⊢
  rw [hd] at this ⊢; simp only [Res.bind] at this ⊢; rw [he] at this ⊢; exact this
theorem mulx_ok {d e : DE} {env : PEnv} {st : Store} {a b : Int} (hd : d env st = .ok (.int a) st) (he : e env st = .ok (.int b) st) (h : CMulX a b) : d2 mulD d e env st = .ok (.int (a * b)) st := by
  have := int2_ok (f := fun i j => .int (i * j)) (C := CMulX) hd he h
  unfold d2 at this ⊢
  rw [hd] at this ⊢; simp only [Res.bind] at this ⊢; rw [he] at this ⊢; exact this
theorem mod_ok {d e : DE} {env : PEnv} {st : Store} {a b : Int} (hd : d env st = .ok (.int a) st) (he : e env st = .ok (.int b) st) (h : 0 < b) : d2 modD d e env st = .ok (.int (a % b)) st := int2_ok (f := fun i j => .int (i % j)) (C := fun _ j => 0 < j) hd he h
theorem div_ok {d e : DE} {env : PEnv} {st : Store} {a b : Int} (hd : d env st = .ok (.int a) st) (he : e env st = .ok (.int b) st) (h : CDivW a b) : d2 divD d e env st = .ok (.int (a / b)) st := int2_ok (f := fun i j => .int (i / j)) (C := CDivW) hd he h
theorem pow_ok {d e : DE} {env : PEnv} {st : Store} {a b : Int} (hd : d env st = .ok (.int a) st) (he : e env st = .ok (.int b) st) (h : CPowW a b) : d2 powD d e env st = .ok (.int (a ^ b.toNat)) st := int2_ok (f := fun i j => .int (i ^ j.toNat)) (C := CPowW) hd he h
theorem con_ok {env : PEnv} {st : Store} {p : PV} : dC p env st = .ok p st := rfl
theorem set_go {i : Nat} {de : DE} {d : DS} {env : PEnv} {st st1 : Store} {p : PV} (h : de env st = .ok p st1) : seqD (setD i de) d env st = d (env.set i (some p)) st1 := by
  unfold seqD setD; rw [h]; rfl
theorem asg_go {de : DE} {g : PV → PEnv → M PEnv} {d : DS} {env env1 : PEnv} {st st1 st2 : Store} {p : PV} (h : de env st = .ok p st1) (h2 : g p env st1 = .ok env1 st2) : seqD (asgD de g) d env st = d env1 st2 := by
  unfold seqD asgD; rw [h]; simp only [tagE, Res.bind]; rw [h2]
theorem ret_go {de : DE} {d : DS} {env : PEnv} {st st1 : Store} {p : PV} (h : de env st = .ok p st1) : seqD (retD de) d env st = .ok (.rt p) st1 := by
  unfold seqD retD; rw [h]; rfl
theorem if_go {c : PEnv → M Bool} {a b d : DS} {env : PEnv} {st st1 : Store} {t : Bool} (h : c env st = .ok t st1) : seqD (ifS c a b) d env st = (match (if t = true then a env st1 else b env st1) with
  | .ok (.nx e2) s2 => d e2 s2
  | r => r) := by
  unfold seqD ifS; rw [h]; rfl

theorem eq_ii {a b : Int} {st : Store} : eqD false (.int a) (.int b) st = .ok (.bl (decide (a = b))) st := by
  show eqDD false (.int a) (.int b) st = _
  show iteM (SeqAt.shaped (PyData.int a) = true ∧ SeqAt.shaped (PyData.int b) = true) (okM (.bl (if false = true then !PyData.eqv (.int a) (.int b) else PyData.eqv (.int a) (.int b)))) st = _
  unfold iteM
  rw [if_pos ⟨rfl, rfl⟩]
  by_cases h : a = b <;> simp [h, okM, PyData.eqv]

theorem ixS_ok {d e : DE} {env : PEnv} {st st1 st2 : Store} {p : PV} {xs : List PV} {i : Int} {v : PV} (hd : d env st = .ok p st1) (he : e env st1 = .ok (.int i) st2) (h : seqOf st2 p = some xs) (hv : atI xs i = some v) : d2 ixD d e env st = .ok v st2 := by
  unfold d2
  rw [hd]; simp only [Res.bind]; rw [he]; simp only [Res.bind]
  unfold ixD
  rw [h]; simp only [hv]
theorem lenT_ok {d : DE} {env : PEnv} {st st1 : Store} {xs : List PV} (hd : d env st = .ok (.tup xs) st1) : callD lenF (dCons d dNil) env st = .ok (.int xs.length) st1 := by
  unfold callD dCons dNil
  rw [hd]; rfl
theorem lenL_ok {d : DE} {env : PEnv} {st st1 : Store} {xs : List PV} (hd : d env st = .ok (.lst xs) st1) : callD lenF (dCons d dNil) env st = .ok (.int xs.length) st1 := by
  unfold callD dCons dNil
  rw [hd]; rfl
theorem and_t {d e : DE} {env : PEnv} {st st1 : Store} (hd : d env st = .ok (.bl true) st1) : andD d e env st = e env st1 := by
  unfold andD; rw [hd]; rfl
theorem and_f {d e : DE} {env : PEnv} {st st1 : Store} (hd : d env st = .ok (.bl false) st1) : andD d e env st = .ok (.bl false) st1 := by
  unfold andD; rw [hd]; rfl
theorem dB_ok {d : DE} {env : PEnv} {st st1 : Store} {b : Bool} (hd : d env st = .ok (.bl b) st1) : dB d env st = .ok b st1 := by
  unfold dB; rw [hd]; rfl
theorem notB_ok {d : PEnv → M Bool} {env : PEnv} {st st1 : Store} {b : Bool} (hd : d env st = .ok b st1) : notB d env st = .ok (!b) st1 := by
  unfold notB; rw [hd]; rfl
theorem orB_t {d e : PEnv → M Bool} {env : PEnv} {st st1 : Store} (hd : d env st = .ok true st1) : orB d e env st = .ok true st1 := by
  unfold orB; rw [hd]; rfl
theorem orB_f {d e : PEnv → M Bool} {env : PEnv} {st st1 : Store} (hd : d env st = .ok false st1) : orB d e env st = e env st1 := by
  unfold orB; rw [hd]; rfl
theorem andB_t {d e : PEnv → M Bool} {env : PEnv} {st st1 : Store} (hd : d env st = .ok true st1) : andB d e env st = e env st1 := by
  unfold andB; rw [hd]; rfl
theorem andB_f {d e : PEnv → M Bool} {env : PEnv} {st st1 : Store} (hd : d env st = .ok false st1) : andB d e env st = .ok false st1 := by
  unfold andB; rw [hd]; rfl
theorem args0 {env : PEnv} {st : Store} : dNil env st = .ok [] st := rfl
theorem args1 {d : DE} {ds : PEnv → M (List PV)} {env : PEnv} {st st1 st2 : Store} {p : PV} {ps : List PV} (h : d env st = .ok p st1) (h2 : ds env st1 = .ok ps st2) : dCons d ds env st = .ok (p :: ps) st2 := by
  unfold dCons; rw [h]; simp only [Res.bind]; rw [h2]
/-- a call of an own def -/
theorem callF_ok {n : Nat} {F : List PV → M PV} {ds : PEnv → M (List PV)} {env : PEnv} {st st1 : Store} {ps : List PV} {r : Res PV} (h : ds env st = .ok ps st1) (hl : ps.length = n) (hF : F ps st1 = r) : callF n F ds [] env st = r := by
  unfold callF; rw [h]; simp only [Res.bind, List.append_nil]; rw [if_pos hl]; exact hF
theorem callD_ok {f : List PV → M PV} {ds : PEnv → M (List PV)} {env : PEnv} {st st1 : Store} {ps : List PV} {r : Res PV} (h : ds env st = .ok ps st1) (hf : f ps st1 = r) : callD f ds env st = r := by
  unfold callD; rw [h]; exact hf
theorem bF_rt {N : Nat} {d : DS} {ps : List PV} {st st' : Store} {v : PV} (h : d (ps.map some ++ List.replicate (N - ps.length) none) st = .ok (.rt v) st') : bodyF N d ps st = .ok v st' := by
  unfold bodyF; rw [h]
theorem bF_nx {N : Nat} {d : DS} {ps : List PV} {st st' : Store} {e : PEnv} (h : d (ps.map some ++ List.replicate (N - ps.length) none) st = .ok (.nx e) st') : bodyF N d ps st = .ok .non st' := by
  unfold bodyF; rw [h]
theorem boolsOf_map (l : List Bool) : boolsOf (l.map PV.bl) = some l := by
  induction l with
  | nil => rfl
  | cons a l ih => simp [boolsOf, ih]
theorem intsOf_map (l : List Int) : intsOf (l.map PV.int) = some l := by
  induction l with
  | nil => rfl
  | cons a l ih => simp [intsOf, ih]
/-- all([.. for x in xs]) with a test that reads alone -/
theorem all_lc {it : PEnv → M (List PV)} {vs : List Nat} {i : Nat} {e : DE} {env : PEnv} {st : Store} {xs : List PV} {f : PV → Bool} (hi : it env st = .ok xs st) (hl : xs.length ≤ 100000)
    (he : ∀ x ∈ xs, e ((wipeE env vs).set i (some x)) st = .ok (.bl (f x)) st) : callD (boolsF fun bs => bs.all id) (dCons (lcD okL it vs (gN i) yesB e) dNil) env st = .ok (.bl (xs.all f)) st := by
  have h := lcL_map (g := gN i) (t := yesB) (e := e) (f := fun p => .bl (f p)) (env := wipeE env vs) (st := st) hl fun x hx => ⟨_, rfl, rfl, he x hx⟩
  have hm : (xs.map fun p => PV.bl (f p)) = (xs.map f).map PV.bl := by simp
  unfold callD dCons dNil lcD
  rw [hi]; simp only [Res.bind]; rw [h]; simp only [noX, Res.bind, okL, okM, boolsF, sqlOf, lstOf]
  rw [hm, boolsOf_map]
  simp
end CD

set_option Elab.async false
set_option linter.all false
set_option maxRecDepth 100000
set_option maxHeartbeats 2000000
namespace CD
open PySem PySem.Spec PyProof.Rows L2 RZ StX ClX
/-! ### defs that are entered while no repr is under way -/
/-- room, and no repr under way -/
structure RoomG (k : Nat) (B : Around) : Prop where
  rm : Room k B
  gu : B.guards = some []
theorem guards_deeper {B : Around} {env : Env} (h : B.guards = some []) : (B.deeper env).guards = some [] := by
  first | exact h | simpa [Around.deeper] using h
structure FnG (P : Program) (w : World) (K : PySem.W.Frag) (mg : Str → Option Value) (base : Heap) (CX : CXT) (k : Nat) (f : Addr) (fd : FuncData) (ps : List Str) (sp : Sp) : Prop where
  few : ∀ zs H Q E, sp zs H Q E → zs.length = ps.length
  go : ∀ (B : Around) (o : List Env) (s : Shared) (H : Hp) (ar : Args) (us : List Value) (zs : List V) (Q : VK) (E : XK), RoomG k B → Env0 P w K mg base B o s H → BindsTo s fd ar (ps.zip us) → Vals zs us → sp zs H Q E →
    codeAny (model P w) B (.call (.ref f) ar) (CR CX o P w H s Q E) s
theorem FnG.imp {P : Program} {w : World} {K : PySem.W.Frag} {mg : Str → Option Value} {base : Heap} {CX : CXT} {k : Nat} {f : Addr} {fd : FuncData} {ps : List Str} {sp sp' : Sp} (F : FnG P w K mg base CX k f fd ps sp)
    (h : ∀ zs H Q E, sp' zs H Q E → sp zs H Q E) : FnG P w K mg base CX k f fd ps sp' :=
  ⟨fun zs H Q E q => F.few zs H Q E (h _ _ _ _ q), fun B o s H ar us zs Q E hr he hb hv hs => F.go B o s H ar us zs Q E hr he hb hv (h _ _ _ _ hs)⟩
section
variable {P : Program} {w : World} {K : PySem.W.Frag} {mg : Str → Option Value} {base : Heap}
theorem fnG_of {CX : CXT} {k : Nat} {f : Addr} {nm qual : Str} {prm : Arguments} {body : List Stmt} {sc : Scope} {dV kV doc pm cdv ct oc : Value} {an od : Option Addr}
    {osl : Array (Option Value)} {N ps : List Str} {sp : Sp} (lk : K.lookup f = some ⟨oc, od, .func (PySem.W.fnOf nm qual prm body sc dV kV doc pm an cdv ct), osl⟩) (hcd : PySem.W.codeIn K cdv qual = true) (S : FnScope N ps sc)
    (few : ∀ zs H Q E, sp zs H Q E → zs.length = ps.length)
    (hbody : ∀ (B : Around) (o : List Env) (s : Shared) (H : Hp) (zs : List V) (Q : VK) (E : XK), RoomG k (B.deeper (envOfC qual sc s.heap.objs.size f cdv)) → sp zs H Q E →
      ∃ t, PSs (cxOf CX P w K mg base N qual sc f cdv B o s H E) body t ∧ t { nx := fun _ H2 => Q .non H2, rt := Q } (start N zs) H) :
    FnG P w K mg base CX (k + 1) f (PySem.W.fnOf nm qual prm body sc dV kV doc pm an cdv ct) ps sp := by
  refine ⟨few, fun B o s H ar us zs Q E hr z0 hb rv hsp => ?_⟩
  have hlz := few _ _ _ _ hsp
  have kin2 : K.In s.heap := z0.mod.kin.keeps fun b u e => (z0.bs b u e).1
  have lim2 : s.heap.NoLimit := z0.mod.nolimit.keeps fun b u e => (z0.bs b u e).1
  have kinds : ∀ y ∈ ps.zip us, sc.names.lookup y.1 = some .local ∨ (sc.names.lookup y.1 = some .cell ∧ ((cellsFrom (s.heap.objs.size + 1) sc.names []).lookup y.1).isSome = true) := by
    rintro ⟨n, v⟩ hy
    exact (S.par n (List.of_mem_zip hy).1).elim .inl fun q => .inr ⟨q, PySem.W.cellsFrom_some _ _ _ (.inl q)⟩
  refine codeAny_call_function hr.rm.depth (kin2 _ _ lk) rfl S.co S.gen rfl (PySem.W.codeRec_of kin2 hcd) (hb _ _ _ _ ?_)
  refine wpAny_newFunctionEnv_cells S.kind kinds fun env he s1 xx => ?_
  subst he
  refine ⟨lim2.keeps xx.toInCall.keep, codeAny_func ?_⟩
  obtain ⟨t, ht, hq⟩ := hbody B o s H zs Q E ⟨hr.rm.deeper _, guards_deeper hr.gu⟩ hsp
  have I : Inv (cxOf CX P w K mg base N qual sc f cdv B o s H E) [] (start N zs) H s1 := inv_start S hr.rm.hd z0 hlz rv xx
  refine wpAny_mono (ht.run [] s1 (start N zs) H _ I hq) (fun fl s2 hs => ?_) fun e s2 hs => hs
  have fin : ∀ {σ2 : St} {H2 : Hp} {v : V} {u : Value}, Inv (cxOf CX P w K mg base N qual sc f cdv B o s H E) [] σ2 H2 s2 → RelV v u → Q v H2 → CE o P w H s Q u s2 := by
    intro σ2 H2 v u J rv q
    exact ⟨v, H2, J.os, J.bare, J.base, J.hok, rv, q⟩
  cases fl with
  | ret u => obtain ⟨v, σ2, H2, J, rv, q⟩ := hs; exact fin J rv q
  | next => obtain ⟨σ2, H2, J, q⟩ := hs; exact fin (v := V.non) (u := Value.none) J rfl q
  | brk => obtain ⟨_, _, _, q⟩ := hs; exact q.elim
  | cont => obtain ⟨_, _, _, q⟩ := hs; exact q.elim
/-- a def of the repr kind by its body -/
abbrev FnDG (P : Program) (w : World) (G : GC) (base : Heap) (k : Nat) (f : Addr) (fd : FuncData) (ps : List Str) (F : List PV → M PV) : Prop :=
  FnG P w G.K G.mg base (L2N.CX P w) k f fd ps (SpF G ps.length F)
theorem defG_ok {G : GC} {x qual : Str} {st : Stmt} {f : Addr} {fd : FuncData} {N ps : List Str} {k : Nat} {d : DS} (F : Fun G.K x qual st f fd) (S : FnScope N ps (defScope st))
    (hb : ∀ (cdv : Value) (B : Around) (o : List Env) (s : Shared) (H : Hp) (E : XK), RoomG k (cxOf (L2N.CX P w) P w G.K G.mg base N qual (defScope st) f cdv B o s H E).A →
      L2N.Takes (cxOf (L2N.CX P w) P w G.K G.mg base N qual (defScope st) f cdv B o s H E) (fun cls d _ H => E cls d H) →
      PassesOwn (model P w) (cxOf (L2N.CX P w) P w G.K G.mg base N qual (defScope st) f cdv B o s H E).A (cxOf (L2N.CX P w) P w G.K G.mg base N qual (defScope st) f cdv B o s H E).env (cxOf (L2N.CX P w) P w G.K G.mg base N qual (defScope st) f cdv B o s H E).xe →
      ∃ t, SSs (cxOf (L2N.CX P w) P w G.K G.mg base N qual (defScope st) f cdv B o s H E) (fun cls d _ H => E cls d H) (defBody st) t d) : FnDG P w G base (k + 1) f fd ps (bodyF N.length d) := by
  obtain ⟨oc, od, kV, doc, pm, an, cdv, ct, osl, rfl, lk, hcd⟩ := F.ex
  refine fnG_of lk hcd S (fun zs H Q E h => h.1) fun B o s H zs Q E hr hsp => ?_
  obtain ⟨t, h⟩ := hb cdv B o s H E hr tk_of hp_of
  refine ⟨t, h.pss, ?_⟩
  obtain ⟨_, r, pvs, sto, l, R, post⟩ := hsp
  refine h.so r _ H (pvs.map some ++ List.replicate (N.length - pvs.length) none) sto _ (EnvR.start l) R ?_
  unfold bodyF at post
  cases q : d (pvs.map some ++ List.replicate (N.length - pvs.length) none) sto with
  | stuck => rw [q] at post; exact post
  | ok fl st2 =>
    rw [q] at post
    cases fl with
    | nx env => exact fun r2 H2 s2 t2 R2 E2 => post r2 H2 t2 R2 _ rep_non
    | bk env => exact post.elim
    | ct env => exact post.elim
    | rt p => exact fun r2 H2 v t2 R2 k2 => post r2 H2 t2 R2 v k2
  | exc e v st2 => rw [q] at post; exact fun r2 H2 s2 cls dd t2 R2 E2 x => post r2 H2 cls dd t2 R2 x
theorem FnDG.exit {G : GC} {k : Nat} {f : Addr} {fd : FuncData} {ps : List Str} {F : List PV → M PV} (h : FnDG P w G base k f fd ps F) : FnDG P w G base k f fd ps (exitF F) :=
  FnG.imp h fun _ _ _ _ q => spF_exit q
theorem FnDG.self {G : GC} {k : Nat} {f : Addr} {fd : FuncData} {ps : List Str} {F : List PV → M PV} (h : FnDG P w G base k f fd ps F) : FnDG P w G base k f fd ps F := h
end
section
variable {X : Cx} {W : WX}
theorem run_fnG {CX : CXT} {k : Nat} {f : Addr} {fd : FuncData} {ps : List Str} {sp : Sp} {dvs : List V} {ds : List Value} {E : St → XK} {pins : List (Addr × Obj)} {σ : St} {H : Hp} {s : Shared} {Q : VK} {us : List Value} {zs : List V}
    (F : FnG X.prog X.w X.K X.mg X.base CX k f fd ps sp) (hr : RoomG k X.A) (hb : Binds X.K fd ps ds) (hd : Vals dvs ds) (hx : PassesAt CX X σ (E σ))
    (I : Inv X pins σ H s) (r : Vals zs us) (h : sp (zs ++ dvs) H Q (E σ)) : wpAny (model X.prog X.w) X.A (call (.ref f) us) (EP X pins σ Q) X.xe s := by
  have rr : Vals (zs ++ dvs) (us ++ ds) := r.append hd
  have hn : (us ++ ds).length = ps.length := rr.length.symm.trans (F.few _ _ _ _ h)
  refine wpAny_call (codeAny_mono (F.go X.A X.stack s H ⟨us, []⟩ (us ++ ds) (zs ++ dvs) Q (E σ) hr I.env0 (hb s us I.kIn hn) rr h) fun o s2 hq => ?_)
  cases o with
  | error e => exact hx pins H s e s2 I hq
  | ok fl => cases fl with
    | ret u => exact I.after hq
    | next => exact hq.elim
    | brk => exact hq.elim
    | cont => exact hq.elim
theorem se_callG {k : Nat} {f : Addr} {fd : FuncData} {pa : List Str} {F : List PV → M PV} {dps : List PV} {dvs : List V} {ds : List Value} {x : Str} {p pos : Pos} {e : Expr} {es : List Expr} {t : TA} {da : PEnv → M (List PV)}
    (hF : FnDG X.prog X.w (gc X) X.base k f fd pa F) (hr : RoomG k X.A) (hm : X.mg x = some (.ref f)) (hk : PySem.W.keepIn X.K (.ref f) = true) (hb : Binds X.K fd pa ds) (tk : L2N.Takes X W) (ha : SA X W (e :: es) t da)
    (hd : Vals dvs ds) (hdr : ∀ r H, RepL (gc X) r H dps dvs) (hg : Gl X x := by rfl) (hdb : (x == ("__debug__" : Str)) = false := by decide)
    (he : starEach (e :: es) X.env = (false, eval e X.env) :: starEach es X.env := by rfl) (hpl : (backTo pos (starEach es X.env)).any (·.1) = false := by rfl) :
    SE X W (.Call (.Name x p) (e :: es) [] pos) (tCallSD (SpF (gc X) pa.length F) dvs (fun s => WE W s) t) (callF pa.length F da dps) := by
  refine ⟨⟨fun pins s σ H Q I h => ?_⟩, fun r s H env st Q E R h => ?_⟩
  · refine wpAny_Call_Name_kw (ld_glob I hg hm ?_ hdb)
    refine PySem.W.callWith_K (h₀ := X.base) I.ok.mod.kin hk (thn (ha.pa.run pos pins s σ H _ I h) fun us s1 ⟨zs, H1, I1, rz, q⟩ => ⟨I1.kIn, ?_⟩) he hpl
    exact run_fnG (E := fun s => WE W s) hF hr hb hd (L2N.passAt tk σ) I1 rz q
  refine ha.so r s H env st _ E R (h.bind.imp fun ps st1 r1 H1 t1 R1 h1 vs hv => ?_)
  have lv : RepL (gc X) r1 H1 (ps ++ dps) (vs ++ dvs) := hv.append (hdr r1 H1)
  split at h1
  · rename_i hl
    exact ⟨by rw [← lv.len]; exact hl, r1, _, st1, lv, R1, h1⟩
  · exact h1.elim
/-! ### repr of data -/
def OkShow (d : PyData) : Prop := (isDisplay d = true ∨ d = .none) ∧ d.showable = true ∧ d.hasDict = false ∧ d.depth ≤ 60 ∧ d.shown.length ≤ sizeLine
noncomputable instance (d : PyData) : Decidable (OkShow d) := Classical.propDecidable _
def rRepr (K : PySem.W.Frag) : List V → Hp → VK → Prop := fun xs H Q => ∃ x d, xs = [x] ∧ Dp K H x d ∧ OkShow d ∧ Q (.str d.shown) H
theorem call_reprD (hg : X.A.guards = some []) (hu : X.A.units + 64 < cLine) : CallR X (.builtin "repr") (rRepr X.K) := by
  intro pins s σ H xs us Q I r h
  obtain ⟨x, d, rfl, hd, ⟨h1, h2, h3, h4, h5⟩, q⟩ := h
  cases r with
  | cons a b =>
    cases b
    rename_i u
    obtain ⟨as, r1⟩ := Dp.reads I d x u hd a
    rcases h1 with h1 | rfl
    case inr =>
      cases r1
      exact P.repr_of_none ⟨.str _, H, I.kept (fun _ _ e => e), ⟨_, rfl⟩, q⟩
    obtain ⟨ad, rfl⟩ := isRef_of_reads r1 h1
    exact repr_of_reads' r1 h2 (PyData.noDict_hsm h3) hg (by omega) (fun _ _ e => e) (fun h' u' tk hk => ⟨.str _, H, I.kept hk, ⟨_, rfl⟩, q⟩) h5
noncomputable def reprF : List PV → M PV
  | [p] => fun st => match dataOf st p with
    | some d => iteM (OkShow d) (okM (.str d.shown)) st
    | none => .stuck
  | _ => nope
theorem scall_repr {G : GC} : SCall G (rRepr G.K) reprF := by
  intro r H st ps xs E Q R hx h
  unfold reprF at h
  split at h
  · obtain ⟨v, rfl, k⟩ := rep1 hx
    split at h
    · rename_i d hd
      obtain ⟨hc, h⟩ := Post.iteM h
      exact ⟨v, d, rfl, dataOf_ok R k hd, hc, h r H Step.refl R _ rep_str⟩
    · exact h.elim
  · exact h.elim
end
end CD

set_option Elab.async false
set_option linter.all false
set_option maxRecDepth 100000
set_option maxHeartbeats 2000000
namespace CD
open PySem PySem.Spec PyProof.Rows L2 RZ StX ClX
/-! ### the law's own end, no repr under way -/
section
variable {P : Program} {w : World} {K : PySem.W.Frag} {mg mb : Str → Option Value} {CX : CXT} {k : Nat} {fa a : Addr} {fd : FuncData} {x : Str} {sp : Sp} {t : Shared} {vs : List Value} {ns : List Int}
def scr (vs : List Value) : Obj := { cls := .type "list", data := .seq vs.toArray }
theorem core_G (KX : K.In t.heap) (hns : t.heap.Ns mainGlobals mg) (hb : t.heap.Ns builtinsNs mb) (hbb : ∀ y : Str, y ≠ "__name__" → mb y = bootBuiltins y) (hlim : t.heap.NoLimit) (hg : t.gens = #[])
    (ha : t.heap.get? a = some (scr vs)) (hr : RoomG k callerA) (F : ∀ base : Heap, K.In base → base.Ns mainGlobals mg → FnG P w K mg base CX k fa fd [x] sp)
    (hbind : ∀ (s : Shared) (u : Value), BindsTo s fd ⟨[u], []⟩ [(x, u)]) (H : Hp) (hO : Only H) (hsp : sp [.ref a] H (fun v _ => v = .bl true) fun _ _ _ => False)
    (hCX : ∀ H e s2, CX [] H t (fun _ _ _ => False) e s2 → False) (hok : HOk P w H t.heap) (hA : ∀ b, H b ≠ none → b = a) (hK : H a ≠ none → K.lookup a = none) :
    codeAny (model P w) callerA (.call (.ref fa) ⟨[.ref a], []⟩) (fun r s2 => r = .ok (.ret (.bool true)) ∧ OldK t.heap s2.heap ∧ s2.os = t.os ∧ AllBare s2.gens) t := by
  have hid : ∀ {b : Addr} {o : Obj}, t.heap.get? b = some o → H b = none → (hidT t.heap H).get? b = some o := fun e n => hidT_get e n
  have free : ∀ {b : Addr} {o : Obj} {es : Array DictEntry} {ep : Nat}, t.heap.get? b = some o → o.data = .dict es ep → H b = none := by
    intro b o es ep e d
    cases q : H b with
    | none => rfl
    | some u =>
      obtain rfl : b = a := hA b (fun z => by rw [z] at q; cases q)
      rw [ha] at e; cases e
      exact absurd (show Data.seq vs.toArray _ = Data.dict es ep from d) (fun z => by cases z)
  have nsH : ∀ {b : Addr} {m : Str → Option Value}, t.heap.Ns b m → (hidT t.heap H).Ns b m := by
    rintro b m ⟨o, es, ep, e, d, r⟩
    exact ⟨o, es, ep, hid e (free e d), d, r⟩
  have kin : K.In (hidT t.heap H) := by
    intro b o e
    refine hid (KX b o e) ?_
    cases q : H b with
    | none => rfl
    | some u =>
      have hne : H b ≠ none := fun z => by rw [z] at q; cases q
      obtain rfl : b = a := hA b hne
      rw [hK hne] at e; cases e
  have hM : Mod K mg (hidT t.heap H) := ⟨kin, nsH hns, ⟨mb, nsH hb, hbb⟩, by obtain ⟨mc, h1, h2⟩ := hlim; exact ⟨mc, nsH h1, h2⟩⟩
  have z0 : Env0 P w K mg (hidT t.heap H) callerA [] t H :=
    ⟨rfl, hM, fun b o e => of_hidT e, Nat.le_of_eq (hidT_size _ _), trivial, (fun b hb => by cases (show b ∈ ([] : List Addr) from hb)), hok, .of_eq hg⟩
  refine codeAny_mono ((F _ kin (nsH hns)).go callerA [] t H ⟨[.ref a], []⟩ [.ref a] [.ref a] _ _ hr z0 (hbind t (.ref a)) (.cons rfl .nil) hsp) fun r s2 h => ?_
  cases r with
  | error e => exact (hCX H e s2 h).elim
  | ok fl => cases fl with
    | next => exact h.elim
    | brk => exact h.elim
    | cont => exact h.elim
    | ret u =>
      obtain ⟨v, H2, os, bare, un, hok2, rr, q⟩ := h
      obtain rfl : v = .bl true := q
      obtain rfl : u = Value.bool true := rr
      refine ⟨rfl, OldK.of_keep fun b o e => ?_, os, bare⟩
      cases q : H b with
      | none => exact un.keep b o e q (fun z => by cases (show b ∈ ([] : List Addr) from z)) (by simp)
      | some u => rcases hO b with z | ⟨ob, xs, z⟩
                  · rw [q] at z; cases z
                  · obtain ⟨e1, _⟩ := hok b _ z
                    obtain ⟨e2, _⟩ := hok2 b _ (un.frzs b ob _ z)
                    rw [e] at e1; cases e1
                    exact e2
theorem call_G (KX : K.In t.heap) (hns : t.heap.Ns mainGlobals mg) (hb : t.heap.Ns builtinsNs mb) (hbb : ∀ y : Str, y ≠ "__name__" → mb y = bootBuiltins y) (hlim : t.heap.NoLimit) (hg : t.gens = #[])
    (ha : t.heap.get? a = some (scr vs)) (hi : IntsAre vs ns) (hl : ns.length ≤ sizeLine) (hr : RoomG k callerA) (F : ∀ base : Heap, K.In base → base.Ns mainGlobals mg → FnG P w K mg base CX k fa fd [x] sp)
    (hbind : ∀ (s : Shared) (u : Value), BindsTo s fd ⟨[u], []⟩ [(x, u)]) (hsp : ∀ H : Hp, Only H → SqL K H a (ns.map V.int) → sp [.ref a] H (fun v _ => v = .bl true) fun _ _ _ => False)
    (hCX : ∀ H e s2, CX [] H t (fun _ _ _ => False) e s2 → False) :
    codeAny (model P w) callerA (.call (.ref fa) ⟨[.ref a], []⟩) (fun r s2 => r = .ok (.ret (.bool true)) ∧ OldK t.heap s2.heap ∧ s2.os = t.os ∧ AllBare s2.gens) t := by
  have rv := vals_ints hi
  have nv := hi.length
  cases hk : K.lookup a with
  | some o =>
    have e := KX a o hk
    rw [ha] at e; cases e
    have O : Only (fun _ => none) := fun _ => .inl rfl
    exact core_G KX hns hb hbb hlim hg ha hr F hbind (fun _ => none) O
      (hsp _ O (.inr ⟨scr vs, vs.toArray, _, hk, rfl, rfl, rfl, by rw [List.size_toArray, nv]; exact hl, by simpa using rv⟩)) hCX (fun b u z => by cases (show (none : Option HO) = some u from z)) (fun b z => absurd rfl z) fun z => absurd rfl z
  | none =>
    have O : Only (fun b => if b = a then some (.frz (scr vs) (.lst (ns.map V.int))) else none) := fun b => by
      by_cases e : b = a
      · exact .inr ⟨_, _, if_pos e⟩
      · exact .inl (if_neg e)
    refine core_G KX hns hb hbb hlim hg ha hr F hbind _ O (hsp _ O (.inl (.inr ⟨scr vs, if_pos rfl⟩))) hCX (fun b u z => ?_) (fun b z => ?_) fun _ => hk
    · by_cases e : b = a
      · have y := (if_pos e).symm.trans z
        cases y; subst e
        exact ⟨ha, by rw [List.length_map]; exact hl, vs, _, rv, ha⟩
      · have y := (if_neg e).symm.trans z
        cases y
    · by_cases e : b = a
      · exact e
      · exact absurd (if_neg e) z
end
theorem walk_G {l : PySem.W.OpenLaw} {n k : Nat} {q : Program} {loose : List Str} {XP : (Str → Option Value) → Heap → Prop} {YP : World → Heap → Prop} {d : DefRec} {K : Params → PySem.W.Frag} {CX : World → CXT} {sp : World → Sp} {x : Str}
    (hn : l.most = some n) (hn2 : n ≤ sizeLine) (hdf : d.params.defaults = []) (hr : RoomG k callerA) (hY : ∀ (w : World) (h : Heap), YP w h → (K w.params).In h)
    (F : ∀ (w : World) (mg : Str → Option Value) (fa : Addr) (h : Heap), (K w.params).In h → h.Ns mainGlobals mg → mg d.name = some (.ref fa) →
      ∃ fd : FuncData, (∀ (s : Shared) (u : Value), BindsTo s fd ⟨[u], []⟩ [(x, u)]) ∧ ∀ base : Heap, (K w.params).In base → base.Ns mainGlobals mg → FnG l.prog w (K w.params) mg base (CX w) k fa fd [x] (sp w))
    (hsp : ∀ (w : World) (H : Hp) (a : Addr) (ns : List Int), ns.length ≤ n → Only H → SqL (K w.params) H a (ns.map V.int) → sp w [.ref a] H (fun v _ => v = .bl true) fun _ _ _ => False)
    (hCX : ∀ (w : World) (H : Hp) (s : Shared) (e : Value) (s2 : Shared), CX w [] H s (fun _ _ _ => False) e s2 → False) :
    PySem.W.WalkO q loose XP YP l.row.toRowW d [] (fun f vs => PySem.call f vs) := by
  refine Att.attach_call hn hdf fun w s₀ t mg mb fa o pm cd doc a vs ns G Y ho hd hcd hmg hobj hints hlen hg => ?_
  have KX := hY w _ Y
  obtain ⟨fd, hb, hF⟩ := F w mg fa _ KX G.T.g hmg
  exact call_G KX G.T.g G.T.b G.T.builtins G.T.nolimit hg hobj hints (Nat.le_trans hlen hn2) hr hF hb (fun H hO hS => hsp w H a ns hlen hO hS) fun H e s2 => hCX w H t e s2
theorem lawG_fn {P : Program} {w : World} {K : PySem.W.Frag} {mg : Str → Option Value} {base : Heap} {k : Nat} {f : Addr} {fd : FuncData} {F : List PV → M PV} (h : FnDG P w ⟨K, mg⟩ base k f fd ["script"] F)
    (ht : ∀ ns : List Int, ns.length ≤ 63 → ∃ st, F [.rls (ns.map .int)] [] = .ok (.bl true) st) : FnG P w K mg base (L2N.CX P w) k f fd ["script"] (spL K) := by
  refine FnG.imp h fun vs H Q E q => ?_
  obtain ⟨a, ns, rfl, hl, hS, q⟩ := q
  obtain ⟨st, e⟩ := ht ns hl
  have na : ∀ b : Addr, ¬ av ⟨[], []⟩ b := fun b z => by rcases z with z | z <;> cases z
  refine ⟨rfl, ⟨[], []⟩, [.rls (ns.map .int)], [], RepL.cons ?_ RepL.nil, ?_, ?_⟩
  · simp only [Rep]
    exact ⟨a, ns.map V.int, rfl, hS.elim (fun hS => .inl ⟨hS, na a⟩) .inr, repInts ns⟩
  · exact ⟨rfl, fun l a e => by simp at e, fun l c e => by simp at e, fun l l' a e => by simp at e, (fun a m => nomatch m), (fun a z m => nomatch m)⟩
  · rw [e]
    intro r2 H2 t2 R2 v kk
    simp only [Rep] at kk
    subst kk
    exact q H2
end CD

set_option Elab.async false
set_option linter.all false
set_option maxRecDepth 100000
set_option maxHeartbeats 2000000
namespace CD
open PySem PySem.Spec PyProof.Rows L2 RZ StX ClX
/-! ### calls with keywords -/
/-- values in the order of the parameters: (0, i) the i-th positional one, (1, i) the i-th keyword's, (2, i) the i-th default -/
def src {α : Type} (us ws ds : List α) : Nat → List α
  | 0 => us
  | 1 => ws
  | _ + 2 => ds
def pcons {α : Type} (o : Option α) (l : List α) : List α := match o with
  | some x => x :: l
  | none => l
def pick {α : Type} (us ws ds : List α) : List (Nat × Nat) → List α
  | [] => []
  | p :: r => pcons (src us ws ds p.1)[p.2]? (pick us ws ds r)
theorem vals_get {vs : List V} {us : List Value} (r : Vals vs us) (i : Nat) : (vs[i]? = none ∧ us[i]? = none) ∨ ∃ v u, vs[i]? = some v ∧ us[i]? = some u ∧ RelV v u := by
  induction r generalizing i with
  | nil => exact .inl ⟨rfl, rfl⟩
  | cons a b ih =>
    cases i with
    | zero => exact .inr ⟨_, _, rfl, rfl, a⟩
    | succ i => simpa using ih i
theorem src_vals {vs ws ds : List V} {us zs es : List Value} (a : Vals vs us) (b : Vals ws zs) (c : Vals ds es) : ∀ k : Nat, Vals (src vs ws ds k) (src us zs es k)
  | 0 => a
  | 1 => b
  | _ + 2 => c
theorem pick_vals {vs ws ds : List V} {us zs es : List Value} (a : Vals vs us) (b : Vals ws zs) (c : Vals ds es) : ∀ l : List (Nat × Nat), Vals (pick vs ws ds l) (pick us zs es l)
  | [] => .nil
  | (k, i) :: l => by
    have ih := pick_vals a b c l
    unfold pick
    dsimp only
    rcases vals_get (src_vals a b c k) i with ⟨e1, e2⟩ | ⟨v, u, e1, e2, r⟩
    · rw [e1, e2]; exact ih
    · rw [e1, e2]; exact .cons r ih
theorem RepL.get_both {G : GC} {r : Loc} {H : Hp} : ∀ {ps : List PV} {vs : List V}, RepL G r H ps vs → ∀ i : Nat, (ps[i]? = none ∧ vs[i]? = none) ∨ ∃ p v, ps[i]? = some p ∧ vs[i]? = some v ∧ Rep G r H p v
  | [], vs, h, i => by simp only [RepL] at h; subst h; exact .inl ⟨rfl, rfl⟩
  | p :: ps, vs, h, i => by
    simp only [RepL] at h
    obtain ⟨v, ws, rfl, a, b⟩ := h
    cases i with
    | zero => exact .inr ⟨p, v, rfl, rfl, a⟩
    | succ i => simpa using RepL.get_both b i
theorem src_rep {G : GC} {r : Loc} {H : Hp} {ps qs ds : List PV} {vs ws es : List V} (a : RepL G r H ps vs) (b : RepL G r H qs ws) (c : RepL G r H ds es) : ∀ k : Nat, RepL G r H (src ps qs ds k) (src vs ws es k)
  | 0 => a
  | 1 => b
  | _ + 2 => c
theorem pick_rep {G : GC} {r : Loc} {H : Hp} {ps qs ds : List PV} {vs ws es : List V} (a : RepL G r H ps vs) (b : RepL G r H qs ws) (c : RepL G r H ds es) : ∀ l : List (Nat × Nat), RepL G r H (pick ps qs ds l) (pick vs ws es l)
  | [] => RepL.nil
  | (k, i) :: l => by
    have ih := pick_rep a b c l
    unfold pick
    dsimp only
    rcases RepL.get_both (src_rep a b c k) i with ⟨e1, e2⟩ | ⟨v, u, e1, e2, r⟩
    · rw [e1, e2]; exact ih
    · rw [e1, e2]; exact RepL.cons r ih
/-- how a call with keywords binds -/
def KwB (K : PySem.W.Frag) (fd : FuncData) (ps : List Str) (n : Nat) (ks : List Str) (ds : List Value) (ix : List (Nat × Nat)) : Prop :=
  ∀ (s : Shared) (us ws : List Value), K.In s.heap → us.length = n → ws.length = ks.length → BindsTo s fd ⟨us, ks.zip ws⟩ (ps.zip (pick us ws ds ix))
def tCallKS (sp : Sp) (n m : Nat) (ds : List V) (ix : List (Nat × Nat)) (E : St → XK) (t tk : TA) : TE := fun σ H Q => t σ H fun vs H1 => tk σ H1 fun zs H2 => vs.length = n ∧ zs.length = m ∧ sp (pick vs zs ds ix) H2 Q (E σ)
def callK (n m k : Nat) (dps : List PV) (ix : List (Nat × Nat)) (F : List PV → M PV) (ds dk : PEnv → M (List PV)) : DE := fun env st => (ds env st).bind fun ps st => (dk env st).bind fun qs st =>
  if ps.length = n ∧ qs.length = m ∧ (pick ps qs dps ix).length = k then F (pick ps qs dps ix) st else .stuck
/-- keyword-only parameters that are not given -/
theorem binds_kw {K : PySem.W.Frag} {fd : FuncData} {ps : List Str} {D : Addr} {l : List (Str × Value)} (h : ∀ q ∈ l, PySem.W.nsIn K D q.1 = some (some q.2)) (n : Nat) (hn : n + l.length = ps.length)
    (hb : ∀ us : List Value, us.length = n → KwChain D l (bindArgs fd ⟨us, []⟩) (ps.zip (us ++ l.map (·.2)))) : Binds K fd ps (l.map (·.2)) := fun s us X hl =>
  BindsTo.of_looks fun M => KwChain.looks X h (hb us (by rw [List.length_append, List.length_map] at hl; omega))
section
variable {X : Cx} {W : WX}
structure SKw (X : Cx) (W : WX) (kws : List Keyword) (t : TA) (d : PEnv → M (List PV)) : Prop where
  pk : PK X kws t
  so : ∀ r s H env st Q, EnvR (gc X) r H s env → SRel (gc X) r H st → Post (gc X) (fun c d H => W c d s H) r H (d env st) (okA (gc X) Q) → t s H Q
theorem sk_nil : SKw X W [] tNil dNil := ⟨pk_nil, fun r s H env st Q E R h => (sa_nil (X := X) (W := W)).so r s H env st Q E R h⟩
theorem sk_cons {e : Expr} {te : TE} {d : DE} {nm : Option Str} {kpos : Pos} {kws : List Keyword} {t : TA} {ds : PEnv → M (List PV)} (h : SE X W e te d) (hk : SKw X W kws t ds) : SKw X W (⟨nm, e, kpos⟩ :: kws) (tCons te t) (dCons d ds) := by
  refine ⟨pk_cons h.pe hk.pk, fun r s H env st Q E R q => ?_⟩
  refine h.so r s H env st _ E R (q.bind.imp fun p st1 r1 H1 t1 R1 h1 x hx => ?_)
  refine hk.so r1 s H1 env st1 _ (E.step t1) R1 (h1.bind.imp fun ps st2 r2 H2 t2 R2 h2 xs hxs => ?_)
  exact h2 r2 H2 Step.refl R2 _ (RepL.cons (Rep.step t2 p x hx) hxs)
theorem run_fnKS {CX : CXT} {k n : Nat} {f : Addr} {fd : FuncData} {ps ks : List Str} {sp : Sp} {dvs : List V} {ds : List Value} {ix : List (Nat × Nat)} {E : St → XK} {pins : List (Addr × Obj)} {σ : St} {H : Hp} {s : Shared} {Q : VK} {us ws : List Value} {vs zs : List V}
    (F : FnOk X.prog X.w X.K X.mg X.base CX k f fd ps sp) (hr : Room k X.A) (hb : KwB X.K fd ps n ks ds ix) (hd : Vals dvs ds) (hx : PassesAt CX X σ (E σ))
    (I : Inv X pins σ H s) (r : Vals vs us) (rz : Vals zs ws) (l1 : vs.length = n) (l2 : zs.length = ks.length) (h : sp (pick vs zs dvs ix) H Q (E σ)) : wpAny (model X.prog X.w) X.A (call (.ref f) us (ks.zip ws)) (EP X pins σ Q) X.xe s := by
  have rr := pick_vals r rz hd ix
  refine wpAny_call (codeAny_mono (F.run X.A X.stack s H ⟨us, ks.zip ws⟩ (pick us ws ds ix) (pick vs zs dvs ix) Q (E σ) hr I.env0 (hb s us ws I.kIn (r.length.symm.trans l1) (rz.length.symm.trans l2)) rr h) fun o s2 hq => ?_)
  cases o with
  | error e => exact hx pins H s e s2 I hq
  | ok fl => cases fl with
    | ret u => exact I.after hq
    | next => exact hq.elim
    | brk => exact hq.elim
    | cont => exact hq.elim
theorem ks_so {n m : Nat} {F : List PV → M PV} {pa : List Str} {dps : List PV} {dvs : List V} {ix : List (Nat × Nat)} {t tk : TA} {da dk : PEnv → M (List PV)} {es : List Expr} {kws : List Keyword}
    (ha : SA X W es t da) (hk : SKw X W kws tk dk) (hdr : ∀ r H, RepL (gc X) r H dps dvs) :
    ∀ r s H env st Q, EnvR (gc X) r H s env → SRel (gc X) r H st → Post (gc X) (fun c d H => W c d s H) r H (callK n m pa.length dps ix F da dk env st) (okE (gc X) Q) → tCallKS (SpF (gc X) pa.length F) n m dvs ix (fun s => WE W s) t tk s H Q := by
  intro r s H env st Q E R h
  refine ha.so r s H env st _ E R (h.bind.imp fun ps st1 r1 H1 t1 R1 h1 vs hv => ?_)
  refine hk.so r1 s H1 env st1 _ (E.step t1) R1 (h1.bind.imp fun qs st2 r2 H2 t2 R2 h2 zs hz => ?_)
  have hv2 := RepL.step t2 _ _ hv
  have lv := pick_rep hv2 hz (hdr r2 H2) ix
  split at h2
  · rename_i hl
    exact ⟨by rw [← hv2.len]; exact hl.1, by rw [← hz.len]; exact hl.2.1, by rw [← lv.len]; exact hl.2.2, r2, _, st2, lv, R2, h2⟩
  · exact h2.elim
theorem se_callK {k n : Nat} {f : Addr} {fd : FuncData} {pa ks : List Str} {F : List PV → M PV} {dps : List PV} {dvs : List V} {ds : List Value} {ix : List (Nat × Nat)} {x : Str} {p pos : Pos} {e : Expr} {es : List Expr} {kws : List Keyword} {t tk : TA} {da dk : PEnv → M (List PV)}
    (hF : FnD X.prog X.w (gc X) X.base k f fd pa F) (hr : Room k X.A) (hm : X.mg x = some (.ref f)) (hkp : PySem.W.keepIn X.K (.ref f) = true) (hb : KwB X.K fd pa n ks ds ix) (tq : L2N.Takes X W) (ha : SA X W (e :: es) t da) (hk : SKw X W kws tk dk)
    (hd : Vals dvs ds) (hdr : ∀ r H, RepL (gc X) r H dps dvs) (hg : Gl X x := by rfl) (hdb : (x == ("__debug__" : Str)) = false := by decide)
    (hall : (backToKw pos (keywordEach kws X.env)).all (·.1.isSome) = true := by rfl) (hks : (backToKw pos (keywordEach kws X.env)).filterMap (·.1) = ks := by rfl)
    (he : starEach (e :: es) X.env = (false, eval e X.env) :: starEach es X.env := by rfl) (hpl : ((backTo pos (starEach (e :: es) X.env)).any (·.1) || (backToKw pos (keywordEach kws X.env)).any (·.1.isNone)) = false := by rfl) :
    SE X W (.Call (.Name x p) (e :: es) kws pos) (tCallKS (SpF (gc X) pa.length F) n ks.length dvs ix (fun s => WE W s) t tk) (callK n ks.length pa.length dps ix F da dk) := by
  refine ⟨⟨fun pins s σ H Q I h => ?_⟩, ks_so ha hk hdr⟩
  refine wpAny_Call_Name_kw (ld_glob I hg hm ?_ hdb)
  refine PySem.W.callWith_KW (h₀ := X.base) I.ok.mod.kin hkp hall (thn (ha.pa.run pos pins s σ H _ I h) fun us s1 ⟨vs, H1, I1, r, q⟩ => ?_) hpl he
  refine thn (hk.pk.run pos pins s1 σ H1 _ I1 q) fun ws s2 ⟨zs, H2, I2, rz, l1, l2, q2⟩ => ⟨I2.kIn, ?_⟩
  rw [hks]
  exact run_fnKS (E := fun s => WE W s) hF hr hb hd (L2N.passAt tq σ) I2 r rz l1 l2 q2
theorem se_callK0 {k : Nat} {f : Addr} {fd : FuncData} {pa ks : List Str} {F : List PV → M PV} {dps : List PV} {dvs : List V} {ds : List Value} {ix : List (Nat × Nat)} {x : Str} {p pos : Pos} {kws : List Keyword} {tk : TA} {dk : PEnv → M (List PV)}
    (hF : FnD X.prog X.w (gc X) X.base k f fd pa F) (hr : Room k X.A) (hm : X.mg x = some (.ref f)) (hkp : PySem.W.keepIn X.K (.ref f) = true) (hb : KwB X.K fd pa 0 ks ds ix) (tq : L2N.Takes X W) (hk : SKw X W kws tk dk)
    (hd : Vals dvs ds) (hdr : ∀ r H, RepL (gc X) r H dps dvs) (hg : Gl X x := by rfl) (hdb : (x == ("__debug__" : Str)) = false := by decide)
    (hall : (backToKw pos (keywordEach kws X.env)).all (·.1.isSome) = true := by rfl) (hks : (backToKw pos (keywordEach kws X.env)).filterMap (·.1) = ks := by rfl)
    (hpl : ((backTo pos (starEach [] X.env)).any (·.1) || (backToKw pos (keywordEach kws X.env)).any (·.1.isNone)) = false := by rfl) :
    SE X W (.Call (.Name x p) [] kws pos) (tCallKS (SpF (gc X) pa.length F) 0 ks.length dvs ix (fun s => WE W s) tNil tk) (callK 0 ks.length pa.length dps ix F dNil dk) := by
  refine ⟨⟨fun pins s σ H Q I h => ?_⟩, ks_so sa_nil hk hdr⟩
  refine wpAny_Call_Name_kw (ld_glob I hg hm ?_ hdb)
  refine PySem.W.callWith_KW0 (h₀ := X.base) I.ok.mod.kin hkp hall (thn (hk.pk.run pos pins s σ H _ I h) fun ws s2 ⟨zs, H2, I2, rz, l1, l2, q2⟩ => ⟨I2.kIn, ?_⟩) hpl
  rw [hks]
  exact run_fnKS (E := fun s => WE W s) (us := []) (vs := []) hF hr hb hd (L2N.passAt tq σ) I2 .nil rz l1 l2 q2
end
end CD

set_option Elab.async false
set_option linter.all false
set_option maxRecDepth 100000
set_option maxHeartbeats 2000000
namespace CD
open PySem L2
/-! ### evaluation by rewriting -/
section
variable {α β : Type} {env : PEnv} {st : Store}
theorem Res.bind_ok {a : α} {f : α → Store → Res β} : Res.bind (.ok a st) f = f a st := rfl
theorem Res.bind_exc {e : PX} {v : PEnv} {f : α → Store → Res β} : Res.bind (.exc e v st) f = .exc e v st := rfl
theorem Res.bind_congr {m m' : Res α} {f : α → Store → Res β} (h : m = m') : Res.bind m f = Res.bind m' f := by rw [h]
theorem tagE_ok {a : α} : tagE env (.ok a st) = .ok a st := rfl
theorem noX_ok {a : α} : noX (.ok a st) = .ok a st := rfl
theorem ev_V {i : Nat} : dV i env st = match env[i]? with
  | some (some p) => .ok p st
  | _ => .stuck := rfl
theorem ev_C {p : PV} : dC p env st = .ok p st := rfl
theorem ev_2 {f : PV → PV → M PV} {a b : DE} : d2 f a b env st = (a env st).bind fun p st => (b env st).bind fun q st => f p q st := rfl
theorem ev_nil : dNil env st = .ok [] st := rfl
theorem ev_cons {d : DE} {ds : PEnv → M (List PV)} : dCons d ds env st = (d env st).bind fun p st => (ds env st).bind fun ps st => .ok (p :: ps) st := by
  unfold dCons; rfl
theorem ev_call {f : List PV → M PV} {ds : PEnv → M (List PV)} : callD f ds env st = (ds env st).bind fun ps st => f ps st := rfl
theorem ev_callF {n : Nat} {F : List PV → M PV} {ds : PEnv → M (List PV)} {dps : List PV} : callF n F ds dps env st = (ds env st).bind fun ps st => if (ps ++ dps).length = n then F (ps ++ dps) st else .stuck := rfl
theorem ev_callK {n m k : Nat} {dps : List PV} {ix : List (Nat × Nat)} {F : List PV → M PV} {ds dk : PEnv → M (List PV)} : callK n m k dps ix F ds dk env st = (ds env st).bind fun ps st => (dk env st).bind fun qs st =>
  if ps.length = n ∧ qs.length = m ∧ (pick ps qs dps ix).length = k then F (pick ps qs dps ix) st else .stuck := rfl
theorem ev_B {d : DE} : dB d env st = (d env st).bind toB := rfl
theorem ev_toB {b : Bool} : toB (.bl b) st = .ok b st := rfl
theorem ev_not {d : DE} {b : Bool} (h : d env st = .ok (.bl b) st) : notD d env st = .ok (.bl (!b)) st := by unfold notD; rw [h]; rfl
theorem ev_notB {d : PEnv → M Bool} : notB d env st = (d env st).bind fun b st => .ok (!b) st := rfl
theorem ev_andB {d e : PEnv → M Bool} : andB d e env st = (d env st).bind fun b st => if b = true then e env st else .ok false st := rfl
theorem ev_orB {d e : PEnv → M Bool} : orB d e env st = (d env st).bind fun b st => if b = true then .ok true st else e env st := rfl
theorem ev_ifD {c : PEnv → M Bool} {a b : DE} : ifD c a b env st = (c env st).bind fun t st => if t = true then a env st else b env st := rfl
theorem ev_add {a b : Int} : addD (.int a) (.int b) st = .ok (.int (a + b)) st := rfl
theorem ev_sub {a b : Int} : subD (.int a) (.int b) st = .ok (.int (a - b)) st := rfl
theorem ev_mod {a b : Int} (h : 0 < b) : modD (.int a) (.int b) st = .ok (.int (a % b)) st := by
  show iteM _ _ st = _
  unfold iteM; rw [if_pos h]; rfl
theorem ev_div {a b : Int} (h : CDivW a b) : divD (.int a) (.int b) st = .ok (.int (a / b)) st := by
  show iteM _ _ st = _
  unfold iteM; rw [if_pos h]; rfl
theorem ev_mul {a b : Int} (h : CMulX a b) : mulD (.int a) (.int b) st = .ok (.int (a * b)) st := by
  show iteM (CMulX a b) (okM (.int (a * b))) st = _
  unfold iteM; rw [if_pos h]; rfl
theorem ev_pow {a b : Int} (h : CPowW a b) : powD (.int a) (.int b) st = .ok (.int (a ^ b.toNat)) st := by
  show iteM _ _ st = _
  unfold iteM; rw [if_pos h]; rfl
theorem ev_lt {a b : Int} : ltD (.int a) (.int b) st = .ok (.bl (decide (a < b))) st := rfl
theorem ev_le {a b : Int} : leD (.int a) (.int b) st = .ok (.bl (decide (a ≤ b))) st := rfl
theorem ev_gt {a b : Int} : gtD (.int a) (.int b) st = .ok (.bl (decide (b < a))) st := rfl
theorem ev_ge {a b : Int} : geD (.int a) (.int b) st = .ok (.bl (decide (b ≤ a))) st := rfl
theorem ev_eq {a b : Int} : eqD false (.int a) (.int b) st = .ok (.bl (decide (a = b))) st := eq_ii
theorem ev_ne {a b : Int} : eqD true (.int a) (.int b) st = .ok (.bl (!decide (a = b))) st := by
  show eqDD true (.int a) (.int b) st = _
  show iteM (SeqAt.shaped (PyData.int a) = true ∧ SeqAt.shaped (PyData.int b) = true) (okM (.bl (if true = true then !PyData.eqv (.int a) (.int b) else PyData.eqv (.int a) (.int b)))) st = _
  unfold iteM
  rw [if_pos ⟨rfl, rfl⟩]
  by_cases h : a = b <;> simp [h, okM, PyData.eqv]
theorem ev_iadd {a b : Int} : int2 (fun _ _ => True) (fun i j => .int (i + j)) (.int a) (.int b) st = .ok (.int (a + b)) st := rfl
theorem ev_isub {a b : Int} : int2 (fun _ _ => True) (fun i j => .int (i - j)) (.int a) (.int b) st = .ok (.int (a - b)) st := rfl
theorem ev_max {a b : Int} : maxF [.int a, .int b] st = .ok (.int (max a b)) st := by
  show Res.ok (PV.int (if b > a then b else a)) st = _
  congr 2
  split <;> omega
theorem ev_min {a b : Int} : minF [.int a, .int b] st = .ok (.int (min a b)) st := by
  show Res.ok (PV.int (if b < a then b else a)) st = _
  congr 2
  split <;> omega
theorem ev_abs {a : Int} : absF [.int a] st = .ok (.int a.natAbs) st := by
  show Res.ok (PV.int (if a < 0 then -a else a)) st = _
  congr 2
  split <;> omega
theorem ev_ix0 {l : Nat} {x : PV} {xs : List PV} (h : st[l]? = some (.lst (x :: xs))) : ixD (.loc l) (.int 0) st = .ok x st := by
  unfold ixD; rw [seqOf_loc h]
  show (match atI (x :: xs) ((0 : Nat) : Int) with | some v => Res.ok v st | none => .stuck) = _
  rw [atI_nat' (k := 0) (v := x) rfl]
theorem ev_ix1 {l : Nat} {x y : PV} {xs : List PV} (h : st[l]? = some (.lst (x :: y :: xs))) : ixD (.loc l) (.int 1) st = .ok y st := by
  unfold ixD; rw [seqOf_loc h]
  show (match atI (x :: y :: xs) ((1 : Nat) : Int) with | some v => Res.ok v st | none => .stuck) = _
  rw [atI_nat' (k := 1) (v := y) rfl]
theorem ev_ix2 {l : Nat} {x y z : PV} {xs : List PV} (h : st[l]? = some (.lst (x :: y :: z :: xs))) : ixD (.loc l) (.int 2) st = .ok z st := by
  unfold ixD; rw [seqOf_loc h]
  show (match atI (x :: y :: z :: xs) ((2 : Nat) : Int) with | some v => Res.ok v st | none => .stuck) = _
  rw [atI_nat' (k := 2) (v := z) rfl]
/-! statements -/
variable {d : DS} {de : DE}
theorem ev_set {i : Nat} {p : PV} {st1 : Store} (h : de env st = .ok p st1) : seqD (setD i de) d env st = d (env.set i (some p)) st1 := set_go h
theorem sq_set {i : Nat} : seqD (setD i de) d env st = (tagE env (de env st)).bind fun p st1 => d (env.set i (some p)) st1 := by
  unfold seqD setD
  cases de env st <;> rfl
theorem sq_ret : seqD (retD de) d env st = (tagE env (de env st)).bind fun p st1 => .ok (.rt p) st1 := by
  unfold seqD retD
  cases de env st <;> rfl
theorem sq_expr : seqD (exprD de) d env st = (tagE env (de env st)).bind fun _ st1 => d env st1 := by
  unfold seqD exprD
  cases de env st <;> rfl
theorem sq_skip : seqD skipD d env st = d env st := rfl
theorem sq_asg {g : PV → PEnv → M PEnv} : seqD (asgD de g) d env st = (tagE env (de env st)).bind fun p st1 => (tagE env (g p env st1)).bind fun env2 st2 => d env2 st2 := by
  unfold seqD asgD
  cases de env st with
  | stuck => rfl
  | exc e v s => rfl
  | ok p s1 => simp only [tagE, Res.bind]; cases g p env s1 <;> rfl
theorem sq_if {c : PEnv → M Bool} {a b : DS} {t : Bool} {st1 : Store} (h : c env st = .ok t st1) : seqD (ifS c a b) d env st = if t = true then seqD a d env st1 else seqD b d env st1 := by
  unfold seqD ifS; rw [h]; cases t <;> rfl
theorem sq_assoc {a b c : DS} : seqD (seqD a b) c env st = seqD a (seqD b c) env st := by
  unfold seqD
  cases a env st with
  | stuck => rfl
  | exc e v s => rfl
  | ok f s1 => cases f <;> rfl
theorem sq_for {it : PEnv → M (List PV)} {g : PV → PEnv → M PEnv} {b : DS} {xs : List PV} {st1 : Store} (h : it env st = .ok xs st1) : seqD (forD it g b) d env st = seqD (forL g b xs) d env st1 := by
  unfold seqD forD; rw [h]; rfl
theorem sq_nx {a : DS} {e2 : PEnv} {s2 : Store} (h : a env st = .ok (.nx e2) s2) : seqD a d env st = d e2 s2 := by
  unfold seqD; rw [h]
theorem if_skip {c : PEnv → M Bool} {a : DS} {st1 : Store} (h : c env st = .ok false st1) : seqD (ifS c a skipD) d env st = d env st1 := by
  rw [if_go h, if_neg (by decide)]; rfl
theorem expr_go {st1 : Store} {p : PV} (h : de env st = .ok p st1) : seqD (exprD de) d env st = d env st1 := by
  unfold seqD exprD; rw [h]; rfl
theorem fld_go {d v : DE} {k : DS} {c f : Str} {st1 st2 : Store} {l : Nat} {q : PV} {ns : List Str} {fs : List PV} (hv : v env st = .ok q st1) (hd : d env st1 = .ok (.loc l) st2) (hc : st2[l]? = some (.ins c ns fs)) (hn : ns.length < 1000) :
    seqD (setF c f d v) k env st = k env (st2.set l (.ins c (putP f q ns fs).1 (putP f q ns fs).2)) := by
  unfold seqD setF
  rw [hv]; simp only [tagE, Res.bind]; rw [hd]; simp only [hc]
  rw [if_pos ⟨trivial, hn⟩]
theorem gix_ev {a b : DE} {v : PV} : noX (gIx a b v env st) = noX ((a env st).bind fun p st => (b env st).bind fun q st => (setI p q v st).bind fun _ st => .ok env st) := rfl
theorem set0_ev {l : Nat} {v x : PV} {xs : List PV} (h : st[l]? = some (.lst (x :: xs))) : setI (.loc l) (.int 0) v st = .ok () (st.set l (.lst (v :: xs))) := by
  unfold setI
  have hl : locOf st (.loc l) = some (l, x :: xs) := by simp [locOf, h]
  have : ixN (x :: xs).length ((0 : Nat) : Int) = some 0 := ixN_nat (by simp)
  simp only [hl, show (0 : Int) = ((0 : Nat) : Int) from rfl, this]
  rfl
theorem set1_ev {l : Nat} {v x y : PV} {xs : List PV} (h : st[l]? = some (.lst (x :: y :: xs))) : setI (.loc l) (.int 1) v st = .ok () (st.set l (.lst (x :: v :: xs))) := by
  unfold setI
  have hl : locOf st (.loc l) = some (l, x :: y :: xs) := by simp [locOf, h]
  have : ixN (x :: y :: xs).length ((1 : Nat) : Int) = some 1 := ixN_nat (by simp)
  simp only [hl, show (1 : Int) = ((1 : Nat) : Int) from rfl, this]
  rfl
theorem set2_ev {l : Nat} {v x y z : PV} {xs : List PV} (h : st[l]? = some (.lst (x :: y :: z :: xs))) : setI (.loc l) (.int 2) v st = .ok () (st.set l (.lst (x :: y :: v :: xs))) := by
  unfold setI
  have hl : locOf st (.loc l) = some (l, x :: y :: z :: xs) := by simp [locOf, h]
  have : ixN (x :: y :: z :: xs).length ((2 : Nat) : Int) = some 2 := ixN_nat (by simp)
  simp only [hl, show (2 : Int) = ((2 : Nat) : Int) from rfl, this]
  rfl
theorem ixl0 {d : DE} {l : Nat} {x : PV} {xs : List PV} (hd : d env st = .ok (.loc l) st) (h : st[l]? = some (.lst (x :: xs))) : d2 ixD d (dC (.int 0)) env st = .ok x st := by
  rw [ev_2, hd]; exact ev_ix0 h
theorem ixl1 {d : DE} {l : Nat} {x y : PV} {xs : List PV} (hd : d env st = .ok (.loc l) st) (h : st[l]? = some (.lst (x :: y :: xs))) : d2 ixD d (dC (.int 1)) env st = .ok y st := by
  rw [ev_2, hd]; exact ev_ix1 h
theorem ixl2 {d : DE} {l : Nat} {x y z : PV} {xs : List PV} (hd : d env st = .ok (.loc l) st) (h : st[l]? = some (.lst (x :: y :: z :: xs))) : d2 ixD d (dC (.int 2)) env st = .ok z st := by
  rw [ev_2, hd]; exact ev_ix2 h
theorem gt_ok {d e : DE} {a b : Int} (hd : d env st = .ok (.int a) st) (he : e env st = .ok (.int b) st) : d2 gtD d e env st = .ok (.bl (decide (b < a))) st := by
  rw [ev_2, hd, Res.bind_ok, he]; rfl
theorem lt_ok {d e : DE} {a b : Int} (hd : d env st = .ok (.int a) st) (he : e env st = .ok (.int b) st) : d2 ltD d e env st = .ok (.bl (decide (a < b))) st := by
  rw [ev_2, hd, Res.bind_ok, he]; rfl
theorem sub_ok {d e : DE} {a b : Int} (hd : d env st = .ok (.int a) st) (he : e env st = .ok (.int b) st) : d2 subD d e env st = .ok (.int (a - b)) st := by
  rw [ev_2, hd, Res.bind_ok, he]; rfl
theorem gixl0 {d : DE} {l : Nat} {v x : PV} {xs : List PV} (hd : d env st = .ok (.loc l) st) (h : st[l]? = some (.lst (x :: xs))) : noX (gIx d (dC (.int 0)) v env st) = .ok env (st.set l (.lst (v :: xs))) := by
  rw [gix_ev, hd, Res.bind_ok, ev_C, Res.bind_ok, set0_ev h]; rfl
theorem gixl2 {d : DE} {l : Nat} {v x y z : PV} {xs : List PV} (hd : d env st = .ok (.loc l) st) (h : st[l]? = some (.lst (x :: y :: z :: xs))) : noX (gIx d (dC (.int 2)) v env st) = .ok env (st.set l (.lst (x :: y :: v :: xs))) := by
  rw [gix_ev, hd, Res.bind_ok, ev_C, Res.bind_ok, set2_ev h]; rfl
theorem size_ok {n : Nat} (h : n ≤ 100000) : n ≤ sizeLine := Nat.le_trans h (by decide)
theorem rng1_ok {ds : PEnv → M (List PV)} {j : Int} {st1 : Store} (h : ds env st = .ok [.int j] st1) (h0 : 0 ≤ j) (h1 : j ≤ 1000000) : rng1 ds env st = .ok (intL 0 j.toNat) st1 := by
  unfold rng1; rw [h]; simp only [Res.bind]; unfold iteM; rw [if_pos (by omega)]
theorem rng2_ok {ds : PEnv → M (List PV)} {i j : Int} {st1 : Store} (h : ds env st = .ok [.int i, .int j] st1) (h0 : -1000000 ≤ i ∧ i ≤ 1000000) (h1 : -1000000 ≤ j ∧ j ≤ 1000000) : rng2 ds env st = .ok (intL i (j - i).toNat) st1 := by
  unfold rng2; rw [h]; simp only [Res.bind]; unfold iteM; rw [if_pos (by omega)]
theorem lst_ok' {ds : PEnv → M (List PV)} {ps : List PV} {st1 : Store} (h : ds env st = .ok ps st1) (hl : ps.length ≤ 100000) : lstD ds env st = .ok (.lst ps) st1 := by
  unfold lstD; rw [h]; simp only [Res.bind]; unfold iteM; rw [if_pos (size_ok hl)]; rfl
theorem lstM_ok {ds : PEnv → M (List PV)} {ps : List PV} {st1 : Store} (h : ds env st = .ok ps st1) (hl : ps.length ≤ 100000) : lstM ds env st = .ok (.loc st1.length) (st1 ++ [.lst ps]) := by
  unfold lstM; rw [h]; simp only [Res.bind]; unfold iteM; rw [if_pos (size_ok hl)]; rfl
theorem ev_lst {ds : PEnv → M (List PV)} : lstD ds env st = (ds env st).bind fun ps st => iteM (ps.length ≤ sizeLine) (okM (.lst ps)) st := rfl
theorem ev_lst_if {ps : List PV} (h : ps.length ≤ 100000) : iteM (ps.length ≤ sizeLine) (okM (.lst ps)) st = .ok (.lst ps) st := by
  unfold iteM; rw [if_pos (size_ok h)]; rfl
theorem ev_ok {p : PV} : okM p st = .ok p st := rfl
theorem sz_if {n : Nat} {m : M α} (h : n ≤ 100000) : iteM (n ≤ sizeLine) m st = m st := by
  unfold iteM; rw [if_pos (size_ok h)]
theorem ev_repr {p : PV} {d : PyData} (h : dataOf st p = some d) (hs : OkShow d) : reprF [p] st = .ok (.str d.shown) st := by
  show (match dataOf st p with | some d => iteM (OkShow d) (okM (.str d.shown)) st | none => .stuck) = _
  rw [h]; unfold iteM; simp only; rw [if_pos hs]; rfl
theorem ev_eqs {x y : Str} : eqD false (.str x) (.str y) st = .ok (.bl (decide (V.str x = V.str y))) st := rfl
theorem ev_eqs1 {x : Str} : eqD false (.str x) (.str x) st = .ok (.bl true) st := by rw [ev_eqs, decide_eq_true rfl]
theorem ev_nes {x y : Str} : eqD true (.str x) (.str y) st = .ok (.bl (!decide (V.str x = V.str y))) st := rfl
theorem ev_eqd {p q : PV} {d e : PyData} (h : dataOf st p = some d) (h2 : dataOf st q = some e) (s1 : SeqAt.shaped d = true) (s2 : SeqAt.shaped e = true) (hs : isStr2 p q = false) : eqD false p q st = .ok (.bl (PyData.eqv d e)) st := by
  unfold eqD orM; rw [hs]; simp only [Bool.false_eq_true, if_false]; unfold eqDD; rw [h, h2]; simp only; unfold iteM; rw [if_pos ⟨s1, s2⟩]; rfl
theorem ev_addl {a b : List PV} (h : a.length + b.length ≤ 100000) : addD (.lst a) (.lst b) st = .ok (.lst (a ++ b)) st := by
  show iteM (a.length + b.length ≤ sizeLine) _ st = _
  unfold iteM; rw [if_pos (size_ok h)]; rfl
theorem ev_mull {a : List PV} {k : Int} (h0 : 0 ≤ k) (h : k ≤ 1000) (hl : a.length * k.toNat ≤ 100000) : mulD (.lst a) (.int k) st = .ok (.lst (List.replicate k.toNat a).flatten) st := by
  show iteM (-(2 ^ 63) ≤ k ∧ k < 2 ^ 63 ∧ a.length * k.toNat ≤ sizeLine) _ st = _
  unfold iteM; rw [if_pos ⟨by omega, by omega, size_ok hl⟩]; rfl
theorem ev_len_rls {xs : List PV} : lenF [.rls xs] st = .ok (.int xs.length) st := rfl
theorem ev_len_lst {xs : List PV} : lenF [.lst xs] st = .ok (.int xs.length) st := rfl
theorem ev_len_tup {xs : List PV} : lenF [.tup xs] st = .ok (.int xs.length) st := rfl
theorem ev_len_loc {l : Nat} {xs : List PV} (h : st[l]? = some (.lst xs)) : lenF [.loc l] st = .ok (.int xs.length) st := by
  unfold lenF; simp only [seqOf_loc h]
theorem ix_seq {p : PV} {xs : List PV} {i : Int} {v : PV} (h : seqOf st p = some xs) (hv : atI xs i = some v) : ixD p (.int i) st = .ok v st := by
  unfold ixD; rw [h]; simp only [hv]
theorem forL_nil {g : PV → PEnv → M PEnv} {b : DS} : forL g b [] env st = .ok (.nx env) st := rfl
theorem intL_mem {lo : Int} {n i : Nat} {p : PV} (h : (intL lo n)[i]? = some p) : p = .int (lo + i) ∧ i < n := by
  refine ⟨intL_get h, ?_⟩
  have := lt_of_get h
  simpa [intL] using this
theorem intL_len {lo : Int} {n : Nat} : (intL lo n).length = n := by simp [intL]
theorem set_get {l : Nat} {c c' : Cell} (h : st[l]? = some c') : (st.set l c)[l]? = some c := by
  rw [List.getElem?_set_self (lt_of_get h)]
end
end CD

set_option Elab.async false
set_option linter.all false
set_option maxRecDepth 100000
set_option maxHeartbeats 2000000
namespace CD
open PySem L2
/-! ### what comes out, by steps -/
def Ok {α : Type} (r : Res α) (P : α → Store → Prop) : Prop := ∃ a s, r = .ok a s ∧ P a s
section
variable {α β : Type} {env : PEnv} {st s1 : Store} {d : DS} {de : DE}
theorem Ok.of {r : Res α} {a : α} {s : Store} {P : α → Store → Prop} (h : r = .ok a s) (p : P a s) : Ok r P := ⟨a, s, h, p⟩
theorem Ok.mono {r : Res α} {P Q : α → Store → Prop} (h : Ok r P) (k : ∀ a s, P a s → Q a s) : Ok r Q := let ⟨a, s, e, p⟩ := h; ⟨a, s, e, k a s p⟩
theorem Ok.eq {r r' : Res α} {P : α → Store → Prop} (e : r = r') (h : Ok r' P) : Ok r P := e ▸ h
theorem Ok.is {r : Res α} {a : α} {s : Store} (h : Ok r fun b t => b = a ∧ t = s) : r = .ok a s := by
  obtain ⟨_, _, e, rfl, rfl⟩ := h; exact e
theorem Ok.bind {m : Res α} {f : α → Store → Res β} {P : β → Store → Prop} (h : Ok m fun a s => Ok (f a s) P) : Ok (m.bind f) P := by
  obtain ⟨a, s, e, p⟩ := h; rw [e]; exact p
theorem wp_set {i : Nat} {P : Flow → Store → Prop} (h : Ok (de env st) fun p s => Ok (d (env.set i (some p)) s) P) : Ok (seqD (setD i de) d env st) P := by
  obtain ⟨p, s, e, k⟩ := h; rw [set_go e]; exact k
theorem wp_setv {i : Nat} {p : PV} {P : Flow → Store → Prop} (e : de env st = .ok p s1) (k : Ok (d (env.set i (some p)) s1) P) : Ok (seqD (setD i de) d env st) P := by
  rw [set_go e]; exact k
theorem wp_expr {p : PV} {P : Flow → Store → Prop} (e : de env st = .ok p s1) (k : Ok (d env s1) P) : Ok (seqD (exprD de) d env st) P := by
  rw [expr_go e]; exact k
theorem wp_asg {p : PV} {g : PV → PEnv → M PEnv} {e1 : PEnv} {s2 : Store} {P : Flow → Store → Prop} (e : de env st = .ok p s1) (h : g p env s1 = .ok e1 s2) (k : Ok (d e1 s2) P) : Ok (seqD (asgD de g) d env st) P := by
  rw [asg_go e h]; exact k
theorem wp_ret {p : PV} {P : Flow → Store → Prop} (e : de env st = .ok p s1) (k : P (.rt p) s1) : Ok (seqD (retD de) d env st) P := ⟨_, _, ret_go e, k⟩
theorem wp_ret1 {p : PV} {P : Flow → Store → Prop} (e : de env st = .ok p s1) (k : P (.rt p) s1) : Ok (retD de env st) P := ⟨_, _, by unfold retD; rw [e]; rfl, k⟩
theorem wp_skip {P : Flow → Store → Prop} (k : P (.nx env) st) : Ok (skipD env st) P := ⟨_, _, rfl, k⟩
theorem wp_if {c : PEnv → M Bool} {a b : DS} {t : Bool} {P : Flow → Store → Prop} (e : c env st = .ok t s1) (h1 : t = true → Ok (seqD a d env s1) P) (h2 : t = false → Ok (seqD b d env s1) P) : Ok (seqD (ifS c a b) d env st) P := by
  rw [sq_if e]
  cases t with
  | true => exact h1 rfl
  | false => exact h2 rfl
theorem wp_if0 {c : PEnv → M Bool} {a b : DS} {P : Flow → Store → Prop} (t : Bool) (e : c env st = .ok t st) (h1 : t = true → Ok (seqD a d env st) P) (h2 : t = false → Ok (seqD b d env st) P) : Ok (seqD (ifS c a b) d env st) P := wp_if e h1 h2
theorem wp_ifF {c : PEnv → M Bool} {a b : DS} {P : Flow → Store → Prop} (e : c env st = .ok false st) (h2 : Ok (seqD b d env st) P) : Ok (seqD (ifS c a b) d env st) P := wp_if e (fun h => by cases h) (fun _ => h2)
theorem wp_ifT {c : PEnv → M Bool} {a b : DS} {P : Flow → Store → Prop} (e : c env st = .ok true st) (h2 : Ok (seqD a d env st) P) : Ok (seqD (ifS c a b) d env st) P := wp_if e (fun _ => h2) (fun h => by cases h)
theorem wp_set0 {i : Nat} (p : PV) {P : Flow → Store → Prop} (e : de env st = .ok p st) (k : Ok (d (env.set i (some p)) st) P) : Ok (seqD (setD i de) d env st) P := wp_setv e k
theorem wp_ret0 (p : PV) {P : Flow → Store → Prop} (e : de env st = .ok p st) (k : P (.rt p) st) : Ok (seqD (retD de) d env st) P := wp_ret e k
theorem dB0 {dd : DE} {b : Bool} (h : dd env st = .ok (.bl b) st) : dB dd env st = .ok b st := dB_ok h
theorem wp_assoc {a b : DS} {P : Flow → Store → Prop} (h : Ok (seqD a (seqD b d) env st) P) : Ok (seqD (seqD a b) d env st) P := by rw [sq_assoc]; exact h
theorem wp_sk {P : Flow → Store → Prop} (h : Ok (d env st) P) : Ok (seqD skipD d env st) P := h
theorem wp_for {it : PEnv → M (List PV)} {g : PV → PEnv → M PEnv} {b : DS} {xs : List PV} {P : Flow → Store → Prop} (I : Nat → PEnv → Store → Prop) (hi : it env st = .ok xs s1) (h0 : I 0 env s1)
    (hs : ∀ (i : Nat) (x : PV) (e : PEnv) (s : Store), xs[i]? = some x → I i e s → Ok (g x e s) fun e1 s1 => Ok (b e1 s1) fun f s2 => ∃ e2, f = .nx e2 ∧ I (i + 1) e2 s2)
    (hk : ∀ e s, I xs.length e s → Ok (d e s) P) : Ok (seqD (forD it g b) d env st) P := by
  rw [sq_for hi]
  obtain ⟨e2, s2, h, k⟩ := forL_inv (g := g) (b := b) I xs 0 env s1 h0 (fun i x e s hx hI => by
    rw [Nat.zero_add] at hI ⊢
    obtain ⟨e1, s1, q1, f, s2, q2, e2, rfl, q3⟩ := hs i x e s hx hI
    exact ⟨e1, s1, e2, s2, q1, q2, q3⟩)
  rw [sq_nx h]
  rw [Nat.zero_add] at k
  exact hk e2 s2 k
/-- a for loop that may return on the way -/
theorem forL_ret {g : PV → PEnv → M PEnv} {b : DS} {R : PV → Store → Prop} (I : Nat → PEnv → Store → Prop) : ∀ (xs : List PV) (k : Nat) (env : PEnv) (st : Store), I k env st →
    (∀ (i : Nat) (x : PV) (e : PEnv) (s : Store), xs[i]? = some x → I (k + i) e s → Ok (g x e s) fun e1 s1 => Ok (b e1 s1) fun f s2 => (∃ e2, f = .nx e2 ∧ I (k + i + 1) e2 s2) ∨ ∃ v, f = .rt v ∧ R v s2) →
    Ok (forL g b xs env st) fun f s => (∃ e2, f = .nx e2 ∧ I (k + xs.length) e2 s) ∨ ∃ v, f = .rt v ∧ R v s
  | [], k, env, st, h0, _ => ⟨_, _, rfl, .inl ⟨env, rfl, h0⟩⟩
  | x :: xs, k, env, st, h0, hs => by
    obtain ⟨e1, t1, q1, f, t2, q2, h⟩ := hs 0 x env st rfl h0
    rcases h with ⟨e2, rfl, h⟩ | ⟨v, rfl, h⟩
    · have ih := forL_ret (R := R) I xs (k + 1) e2 t2 h fun i y e s hy hi => by
        have := hs (i + 1) y e s (by simpa using hy) (by rw [show k + (i + 1) = k + 1 + i by omega]; exact hi)
        rw [show k + (i + 1) + 1 = k + 1 + i + 1 by omega] at this
        exact this
      refine Ok.eq ?_ (ih.mono fun f s hf => ?_)
      · show ((tagE env (g x env st)).bind _) = _
        rw [q1]
        show (match b e1 t1 with | .ok (.nx e2) s2 => forL g b xs e2 s2 | .ok (.ct e2) s2 => forL g b xs e2 s2 | .ok (.bk e2) s2 => .ok (.nx e2) s2 | r => r) = _
        rw [q2]
      · rw [show k + (x :: xs).length = k + 1 + xs.length by simp; omega]; exact hf
    · refine ⟨.rt v, t2, ?_, .inr ⟨v, rfl, h⟩⟩
      show ((tagE env (g x env st)).bind _) = _
      rw [q1]
      show (match b e1 t1 with | .ok (.nx e2) s2 => forL g b xs e2 s2 | .ok (.ct e2) s2 => forL g b xs e2 s2 | .ok (.bk e2) s2 => .ok (.nx e2) s2 | r => r) = _
      rw [q2]
theorem wp_forR {it : PEnv → M (List PV)} {g : PV → PEnv → M PEnv} {b : DS} {xs : List PV} {P : Flow → Store → Prop} (I : Nat → PEnv → Store → Prop) (hi : it env st = .ok xs s1) (h0 : I 0 env s1)
    (hs : ∀ (i : Nat) (x : PV) (e : PEnv) (s : Store), xs[i]? = some x → I i e s → Ok (g x e s) fun e1 s1 => Ok (b e1 s1) fun f s2 => (∃ e2, f = .nx e2 ∧ I (i + 1) e2 s2) ∨ ∃ v, f = .rt v ∧ P (.rt v) s2)
    (hk : ∀ e s, I xs.length e s → Ok (d e s) P) : Ok (seqD (forD it g b) d env st) P := by
  rw [sq_for hi]
  obtain ⟨f, s2, h, k⟩ := forL_ret (g := g) (b := b) (R := fun v s => P (.rt v) s) I xs 0 env s1 h0 (fun i x e s hx hI => by
    rw [Nat.zero_add] at hI ⊢; exact hs i x e s hx hI)
  rw [Nat.zero_add] at k
  unfold seqD
  rw [h]
  rcases k with ⟨e2, rfl, k⟩ | ⟨v, rfl, k⟩
  · exact hk e2 s2 k
  · exact ⟨_, _, rfl, k⟩
/-- a while loop by an invariant and a measure -/
theorem wp_while {c : PEnv → M Bool} {b : DS} {P : Flow → Store → Prop} (I : Nat → PEnv → Store → Prop) (m : Nat) (h0 : I m env st)
    (hs : ∀ (m : Nat) (e : PEnv) (s : Store), I m e s → Ok (c e s) fun t s1 => (t = true → Ok (b e s1) fun f s2 => ∃ e2 m', f = .nx e2 ∧ m' < m ∧ I m' e2 s2) ∧ (t = false → Ok (d e s1) P)) : Ok (seqD (whileD c b) d env st) P := by
  have key : ∀ (m : Nat) (e : PEnv) (s : Store), I m e s → ∃ n e2 s2, whileN c b n e s = .ok (.nx e2) s2 ∧ Ok (d e2 s2) P := by
    intro m
    induction m using Nat.strongRecOn with
    | ind m ih =>
      intro e s hI
      obtain ⟨t, s1, hc, hT, hF⟩ := hs m e s hI
      cases t with
      | false => exact ⟨1, e, s1, by unfold whileN; rw [hc]; simp [tagE, Res.bind], hF rfl⟩
      | true =>
        obtain ⟨f, s2, hb, e2, m', rfl, hm, hI2⟩ := hT rfl
        obtain ⟨n, e3, s3, h3, h4⟩ := ih m' hm e2 s2 hI2
        exact ⟨n + 1, e3, s3, by unfold whileN; rw [hc]; simp only [tagE, Res.bind, if_true]; rw [hb]; exact h3, h4⟩
  obtain ⟨n, e2, s2, h, k⟩ := key m env st h0
  rw [sq_nx (whileD_eq h (by simp))]
  exact k
theorem wp_body {N : Nat} {D : DS} {ps : List PV} {Q : PV → Store → Prop} (h : Ok (D (ps.map some ++ List.replicate (N - ps.length) none) st) fun f s => match f with
    | .rt v => Q v s
    | .nx _ => Q .non s
    | _ => False) : Ok (bodyF N D ps st) Q := by
  obtain ⟨f, s, e, k⟩ := h
  unfold bodyF
  rw [e]
  cases f with
  | nx e => exact ⟨_, _, rfl, k⟩
  | rt v => exact ⟨_, _, rfl, k⟩
  | bk e => exact k.elim
  | ct e => exact k.elim
theorem wp_exit {F : List PV → M PV} {ps : List PV} {Q : PV → Store → Prop} (h : Ok (F ps st) fun p s => ∃ q, sub (thaw st.length s 4) p = some q ∧ (s.take st.length).all (belowC st.length) = true ∧ Q q (s.take st.length)) : Ok (exitF F ps st) Q := by
  obtain ⟨p, s, e, q, h1, h2, h3⟩ := h
  refine ⟨q, _, ?_, h3⟩
  unfold exitF
  rw [e]
  show leave st.length p s = _
  unfold leave
  rw [h1]
  simp only
  rw [if_pos h2]
/-! values without places -/
mutual
def flat : PV → Bool
  | .loc _ => false
  | .tup xs => flatL xs
  | .lst xs => flatL xs
  | .rls xs => flatL xs
  | .obj _ _ fs => flatL fs
  | .dct _ _ xs => flatL xs
  | _ => true
def flatL : List PV → Bool
  | [] => true
  | x :: xs => flat x && flatL xs
end
mutual
theorem sub_flat {h : Nat → Option PV} : ∀ p : PV, flat p = true → sub h p = some p
  | .loc _, e => by simp [flat] at e
  | .tup xs, e => by simp only [flat] at e; simp only [sub, subL_flat xs e, Option.map]
  | .lst xs, e => by simp only [flat] at e; simp only [sub, subL_flat xs e, Option.map]
  | .rls xs, e => by simp only [flat] at e; simp only [sub, subL_flat xs e, Option.map]
  | .obj c ns xs, e => by simp only [flat] at e; simp only [sub, subL_flat xs e, Option.map]
  | .dct lk ks xs, e => by simp only [flat] at e; simp only [sub, subL_flat xs e, Option.map]
  | .non, _ => by simp only [sub]
  | .bl _, _ => by simp only [sub]
  | .int _, _ => by simp only [sub]
  | .str _, _ => by simp only [sub]
  | .ty _, _ => by simp only [sub]
  | .gl _, _ => by simp only [sub]
theorem subL_flat {h : Nat → Option PV} : ∀ ps : List PV, flatL ps = true → subL h ps = some ps
  | [], _ => by simp only [subL]
  | x :: xs, e => by
    simp only [flatL, Bool.and_eq_true] at e
    simp only [subL, sub_flat x e.1, subL_flat xs e.2]
end
theorem flatL_all : ∀ ps : List PV, flatL ps = true ↔ ∀ p ∈ ps, flat p = true
  | [] => by simp [flatL]
  | x :: xs => by simp [flatL, flatL_all xs]
theorem flatL_map {γ : Type} {f : γ → PV} (l : List γ) (h : ∀ x ∈ l, flat (f x) = true) : flatL (l.map f) = true := by
  rw [flatL_all]; intro p hp
  obtain ⟨x, hx, rfl⟩ := List.mem_map.mp hp
  exact h x hx
/-- a store whose lists hold no places -/
def Flat (st : Store) : Prop := ∀ c ∈ st, ∃ xs, c = .lst xs ∧ flatL xs = true
theorem Flat.below {st : Store} (h : Flat st) (n : Nat) : st.all (belowC n) = true := by
  rw [List.all_eq_true]
  intro c hc
  obtain ⟨xs, rfl, hf⟩ := h c hc
  simp only [belowC, subL_flat xs hf]
theorem Flat.nil : Flat [] := fun c hc => by cases hc
theorem Flat.app {st : Store} (h : Flat st) {xs : List PV} (hx : flatL xs = true) : Flat (st ++ [.lst xs]) := fun c hc => by
  rcases List.mem_append.mp hc with hc | hc
  · exact h c hc
  · simp at hc; exact ⟨xs, hc, hx⟩
theorem Flat.set {st : Store} (h : Flat st) {xs : List PV} (hx : flatL xs = true) (l : Nat) : Flat (st.set l (.lst xs)) := fun c hc => by
  rcases List.mem_or_eq_of_mem_set hc with hc | hc
  · exact h c hc
  · exact ⟨xs, hc, hx⟩
/-- what is made here is handed back, the store is as before -/
theorem leave_own {st : Store} (h : Flat st) {xs : List PV} (hx : flatL xs = true) {cs : List Cell} : ∃ q, sub (thaw st.length (st ++ .lst xs :: cs) 4) (.loc st.length) = some q ∧ ((st ++ .lst xs :: cs).take st.length).all (belowC st.length) = true ∧ q = .lst xs ∧ (st ++ .lst xs :: cs).take st.length = st := by
  refine ⟨.lst xs, ?_, ?_, rfl, by simp⟩
  · simp only [sub, thaw]
    rw [if_neg (by omega)]
    simp [subL_flat xs hx]
  · simp only [List.take_left']
    simpa using h.below _
theorem leave_val {st : Store} (h : Flat st) {p : PV} (hp : flat p = true) {cs : List Cell} : ∃ q, sub (thaw st.length (st ++ cs) 4) p = some q ∧ ((st ++ cs).take st.length).all (belowC st.length) = true ∧ q = p ∧ (st ++ cs).take st.length = st :=
  ⟨p, sub_flat p hp, by simpa using h.below _, rfl, by simp⟩
theorem app_ok {l : Nat} {xs : List PV} {q : PV} (h : st[l]? = some (.lst xs)) (hl : xs.length ≤ 100000) : appF (.loc l) [q] st = .ok .non (st.set l (.lst (xs ++ [q]))) := by
  unfold appF
  have : locOf st (.loc l) = some (l, xs) := by simp [locOf, h]
  simp only [this]
  rw [if_pos (Nat.lt_of_le_of_lt hl (by decide))]
theorem meth_ok {ok : Store → PV → Bool} {f : PV → List PV → M PV} {dd : DE} {ds : PEnv → M (List PV)} {p : PV} {qs : List PV} {s2 : Store} {r : Res PV} (hd : dd env st = .ok p s1) (hk : ok s1 p = true) (ha : ds env s1 = .ok qs s2) (h : f p qs s2 = r) : methD ok f dd ds env st = r := by
  unfold methD
  rw [hd]; simp only [Res.bind]; rw [if_pos hk, ha]; exact h
theorem isL_loc {l : Nat} {xs : List PV} (h : st[l]? = some (.lst xs)) : isL st (.loc l) = true := by
  simp [isL, sqlOf, lstOf, h]
end
end CD

set_option Elab.async false
set_option linter.all false
set_option maxRecDepth 100000
set_option maxHeartbeats 2000000
namespace CD
open PySem L2
/-! ### comprehensions over a list, by values -/
section
variable {γ : Type} {env : PEnv} {st : Store}
theorem lc_gen {it : PEnv → M (List PV)} {vs : List Nat} {tg : PV → PEnv → M PEnv} {t : PEnv → M Bool} {e : DE} {k : List PV → M PV} {l : List γ} {enc : γ → PV} (e1 : γ → PEnv) (f : γ → Bool) (g : γ → PV) (hi : it env st = .ok (l.map enc) st) (hl : l.length ≤ 100000)
    (hg : ∀ x ∈ l, tg (enc x) (wipeE env vs) st = .ok (e1 x) st) (ht : ∀ x ∈ l, t (e1 x) st = .ok (f x) st) (he : ∀ x ∈ l, f x = true → e (e1 x) st = .ok (g x) st) :
    lcD k it vs tg t e env st = k ((l.filter f).map g) st := by
  obtain ⟨acc, s, h, rfl, ha⟩ := lcL_inv (g := tg) (t := t) (e := e) (env := wipeE env vs) (fun i acc s => s = st ∧ acc = ((l.take i).filter f).map g) (l.map enc) 0 [] st (by simpa using hl) ⟨rfl, by simp⟩ (fun i x acc s hx ⟨hs, ha⟩ => by
    subst hs
    rw [List.getElem?_map] at hx
    cases q : l[i]? with
    | none => rw [q] at hx; cases hx
    | some y =>
      rw [q] at hx; cases hx
      have hy := List.mem_of_getElem? q
      have tk : l.take (0 + i + 1) = l.take (0 + i) ++ [y] := by rw [Nat.zero_add, List.take_add_one, q]; rfl
      refine ⟨_, _, hg y hy, ?_⟩
      cases hf : f y with
      | true => exact .inl ⟨_, _, _, (ht y hy).trans (by rw [hf]), he y hy hf, rfl, by rw [tk, List.filter_append, List.map_append, ← ha]; simp [hf]⟩
      | false => exact .inr ⟨_, (ht y hy).trans (by rw [hf]), rfl, by rw [tk, List.filter_append, List.map_append, ← ha]; simp [hf]⟩)
  unfold lcD
  rw [hi, Res.bind_ok, h, noX_ok, Res.bind_ok]
  rw [ha, List.length_map, Nat.zero_add, List.take_length]
theorem lc_map {it : PEnv → M (List PV)} {vs : List Nat} {tg : PV → PEnv → M PEnv} {e : DE} {k : List PV → M PV} {l : List γ} {enc : γ → PV} (e1 : γ → PEnv) (g : γ → PV) (hi : it env st = .ok (l.map enc) st) (hl : l.length ≤ 100000)
    (hg : ∀ x ∈ l, tg (enc x) (wipeE env vs) st = .ok (e1 x) st) (he : ∀ x ∈ l, e (e1 x) st = .ok (g x) st) : lcD k it vs tg yesB e env st = k (l.map g) st := by
  rw [lc_gen e1 (fun _ => true) g hi hl hg (fun _ _ => rfl) (fun x hx _ => he x hx), List.filter_eq_self.mpr fun _ _ => rfl]
theorem intL_map {lo : Int} {n : Nat} : intL lo n = ((List.range n).map fun i => lo + (i : Nat)).map PV.int := by unfold intL; simp [List.map_map, Function.comp_def]
theorem items_lst {dd : DE} {xs : List PV} {s1 : Store} (h : dd env st = .ok (.lst xs) s1) : itemsD dd env st = .ok xs s1 := by unfold itemsD; rw [h]; rfl
theorem items_tup {dd : DE} {xs : List PV} {s1 : Store} (h : dd env st = .ok (.tup xs) s1) : itemsD dd env st = .ok xs s1 := by unfold itemsD; rw [h]; rfl
end
/-! ### equality of lists -/
theorem toDL_map {γ : Type} {h : Nat → Option PyData} {f : γ → PV} {g : γ → PyData} : ∀ l : List γ, (∀ x ∈ l, toD h (f x) = some (g x)) → toDL h (l.map f) = some (l.map g)
  | [], _ => by simp [toDL]
  | x :: l, e => by
    simp only [List.map_cons, toDL, e x List.mem_cons_self, toDL_map l fun y hy => e y (List.mem_cons_of_mem _ hy)]
theorem toDL_ints {h : Nat → Option PyData} (l : List Int) : toDL h (l.map .int) = some (l.map .int) := toDL_map l fun x _ => by simp [toD]
theorem canLay_ints : ∀ l : List Int, PyData.canLayAll0 (l.map .int) = true
  | [] => rfl
  | x :: l => by simp [PyData.canLayAll0, PyData.canLay0, canLay_ints l]
theorem depth_ints : ∀ l : List Int, PyData.depthAll (l.map .int) ≤ 1
  | [] => by simp [PyData.depthAll]
  | x :: l => by
    have := depth_ints l
    simp [PyData.depthAll, PyData.depth]
    omega
theorem eqv_ints : ∀ a b : List Int, PyData.eqvAll (a.map .int) (b.map .int) = decide (a = b)
  | [], [] => by simp [PyData.eqvAll]
  | [], y :: b => by simp [PyData.eqvAll]
  | x :: a, [] => by simp [PyData.eqvAll]
  | x :: a, y :: b => by
    simp only [List.map_cons, PyData.eqvAll, PyData.eqv, eqv_ints a b]
    by_cases h : x = y <;> simp [h]
theorem shaped_lst {ds : List PyData} (h : PyData.canLayAll0 ds = true) (hd : PyData.depthAll ds ≤ 60) : SeqAt.shaped (.list ds) = true := by
  have e : SeqAt.shaped (.list ds) = (PyData.canLay0 (.list ds) && decide (PyData.depth (.list ds) ≤ 64)) := rfl
  rw [e, show PyData.canLay0 (.list ds) = PyData.canLayAll0 ds by simp [PyData.canLay0], show PyData.depth (.list ds) = PyData.depthAll ds + 1 by simp [PyData.depth], h, Bool.true_and, decide_eq_true (by omega)]
theorem shaped_tup {ds : List PyData} (h : PyData.canLayAll0 ds = true) (hd : PyData.depthAll ds ≤ 60) : SeqAt.shaped (.tuple ds) = true := by
  have e : SeqAt.shaped (.tuple ds) = (PyData.canLay0 (.tuple ds) && decide (PyData.depth (.tuple ds) ≤ 64)) := rfl
  rw [e, show PyData.canLay0 (.tuple ds) = PyData.canLayAll0 ds by simp [PyData.canLay0], show PyData.depth (.tuple ds) = PyData.depthAll ds + 1 by simp [PyData.depth], h, Bool.true_and, decide_eq_true (by omega)]
section
variable {st : Store}
theorem eqD_dd {neg : Bool} {p q : PV} {d e : PyData} (h : dataOf st p = some d) (h2 : dataOf st q = some e) (s1 : SeqAt.shaped d = true) (s2 : SeqAt.shaped e = true) (hs : isStr2 p q = false) : eqD neg p q st = .ok (.bl (PyData.eqv d e != neg)) st := by
  unfold eqD orM; rw [hs]; simp only [Bool.false_eq_true, if_false]; unfold eqDD; rw [h, h2]; simp only; unfold iteM; rw [if_pos ⟨s1, s2⟩]
  cases neg <;> simp [okM]
theorem eq_lints {neg : Bool} (a b : List Int) : eqD neg (.lst (a.map .int)) (.lst (b.map .int)) st = .ok (.bl (decide (a = b) != neg)) st := by
  rw [eqD_dd (d := .list (a.map .int)) (e := .list (b.map .int)) (by simp [dataOf, toD, toDL_ints]) (by simp [dataOf, toD, toDL_ints]) (shaped_lst (canLay_ints a) (by have := depth_ints a; omega)) (shaped_lst (canLay_ints b) (by have := depth_ints b; omega)) rfl]
  simp only [PyData.eqv, eqv_ints]
theorem eq_tints {neg : Bool} (a b : List Int) : eqD neg (.tup (a.map .int)) (.tup (b.map .int)) st = .ok (.bl (decide (a = b) != neg)) st := by
  rw [eqD_dd (d := .tuple (a.map .int)) (e := .tuple (b.map .int)) (by simp [dataOf, toD, toDL_ints]) (by simp [dataOf, toD, toDL_ints]) (shaped_tup (canLay_ints a) (by have := depth_ints a; omega)) (shaped_tup (canLay_ints b) (by have := depth_ints b; omega)) rfl]
  simp only [PyData.eqv, eqv_ints]
theorem eq_lnil {neg : Bool} {ds : List PyData} {xs : List PV} (h : toDL (cellD st) xs = some ds) (hc : PyData.canLayAll0 ds = true) (hd : PyData.depthAll ds ≤ 60) : eqD neg (.lst xs) (.lst []) st = .ok (.bl (decide (xs = []) != neg)) st := by
  rw [eqD_dd (d := .list ds) (e := .list []) (by simp [dataOf, toD, h]) (by simp [dataOf, toD, toDL]) (shaped_lst hc hd) (shaped_lst rfl (by simp [PyData.depthAll])) rfl]
  cases xs with
  | nil => simp only [toDL] at h; cases h; simp [PyData.eqv, PyData.eqvAll]
  | cons x xs =>
    simp only [toDL] at h
    split at h
    · cases h; simp [PyData.eqv, PyData.eqvAll]
    · cases h
theorem toDL_lints {h : Nat → Option PyData} (l : List (List Int)) : toDL h (l.map fun r => .lst (r.map .int)) = some (l.map fun r => .list (r.map .int)) := toDL_map l fun x _ => by simp [toD, toDL_ints]
theorem canLay_map {γ : Type} {g : γ → PyData} : ∀ l : List γ, (∀ x ∈ l, PyData.canLay0 (g x) = true) → PyData.canLayAll0 (l.map g) = true
  | [], _ => rfl
  | x :: l, h => by simp [PyData.canLayAll0, h x List.mem_cons_self, canLay_map l fun y hy => h y (List.mem_cons_of_mem _ hy)]
theorem depth_map {γ : Type} {g : γ → PyData} {n : Nat} : ∀ l : List γ, (∀ x ∈ l, PyData.depth (g x) ≤ n) → PyData.depthAll (l.map g) ≤ n
  | [], _ => by simp [PyData.depthAll]
  | x :: l, h => by
    have h1 := h x List.mem_cons_self
    have h2 := depth_map l fun y hy => h y (List.mem_cons_of_mem _ hy)
    simp only [List.map_cons, PyData.depthAll]; omega
theorem eq_llnil {neg : Bool} (l : List (List Int)) : eqD neg (.lst (l.map fun r => .lst (r.map .int))) (.lst []) st = .ok (.bl (decide (l = []) != neg)) st := by
  rw [eq_lnil (toDL_lints l) (canLay_map l fun x _ => by simp [PyData.canLay0, canLay_ints]) (Nat.le_trans (depth_map (n := 2) l fun x _ => by have := depth_ints x; simp only [PyData.depth]; omega) (by decide))]
  simp
theorem eq_lnil0 {neg : Bool} (a : List Int) : eqD neg (.lst (a.map .int)) (.lst []) st = .ok (.bl (decide (a = []) != neg)) st := eq_lints a []
theorem flat_ints (l : List Int) : flatL (l.map PV.int) = true := flatL_map l fun _ _ => rfl
theorem flat_lints (l : List (List Int)) : flatL (l.map fun r => PV.lst (r.map .int)) = true := flatL_map l fun r _ => by simp only [flat]; exact flat_ints r
end
end CD

set_option Elab.async false
set_option linter.all false
set_option maxRecDepth 100000
set_option maxHeartbeats 2000000
namespace CD
open PySem L2
/-! ### how long a display's text is -/
mutual
def Small : PyData → Prop
  | .none => True
  | .bool _ => True
  | .int i => i.natAbs.log2 < 1920
  | .str x => (PyData.str x).shown.length ≤ 1000 ∧ (PyData.str x).showable = true
  | .list xs => SmallL xs
  | .tuple xs => SmallL xs
  | _ => False
def SmallL : List PyData → Prop
  | [] => True
  | x :: xs => Small x ∧ SmallL xs
end
mutual
def nodes : PyData → Nat
  | .list xs => 1 + nodesL xs
  | .tuple xs => 1 + nodesL xs
  | _ => 1
def nodesL : List PyData → Nat
  | [] => 0
  | x :: xs => nodes x + nodesL xs
end
mutual
theorem small_show : ∀ d : PyData, Small d → d.shown.length + 5 ≤ 2000 * nodes d ∧ d.showable = true ∧ d.hasDict = false
  | .none, _ => ⟨by have : (PyData.none).shown.length ≤ 4 := by decide +kernel
                    simp only [nodes]; omega, rfl, rfl⟩
  | .bool b, _ => ⟨by have : (PyData.bool b).shown.length ≤ 5 := by cases b <;> decide +kernel
                      simp only [nodes]; omega, rfl, rfl⟩
  | .int i, h => by
    simp only [Small] at h
    refine ⟨?_, by simp only [PyData.showable]; exact decide_eq_true h, rfl⟩
    have := PyProof.Rows.int_text_len_1921 h
    have e : (PyData.int i).shown = (toString i : Str) := by simp only [PyData.shown]
    rw [e]
    simp only [nodes]
    exact Nat.le_trans (Nat.add_le_add_right this 5) (by decide)
  | .str x, h => by
    simp only [Small] at h
    refine ⟨?_, h.2, rfl⟩
    simp only [nodes]; omega
  | .dict _, h => by simp [Small] at h
  | .list xs, h => by
    simp only [Small] at h
    obtain ⟨h1, h2, h3, h4⟩ := small_showL xs h
    refine ⟨?_, by simp only [PyData.showable]; exact h2, by simp only [PyData.hasDict]; exact h3⟩
    have := PySem.listText_len_le (PyData.shownAll xs)
    simp only [PyData.shown, nodes]
    omega
  | .tuple xs, h => by
    simp only [Small] at h
    obtain ⟨h1, h2, h3, h4⟩ := small_showL xs h
    refine ⟨?_, by simp only [PyData.showable]; exact h2, by simp only [PyData.hasDict]; exact h3⟩
    have := PySem.tupleText_len_le (PyData.shownAll xs)
    simp only [PyData.shown, nodes]
    omega
theorem small_showL : ∀ xs : List PyData, SmallL xs → ((PyData.shownAll xs).map (·.length)).sum + 5 * (PyData.shownAll xs).length ≤ 2000 * nodesL xs ∧ PyData.showableAll xs = true ∧ PyData.hasDictAll xs = false ∧ True
  | [], _ => ⟨by simp [PyData.shownAll, nodesL], rfl, rfl, trivial⟩
  | x :: xs, h => by
    simp only [SmallL] at h
    obtain ⟨a1, a2, a3⟩ := small_show x h.1
    obtain ⟨b1, b2, b3, _⟩ := small_showL xs h.2
    refine ⟨?_, by simp only [PyData.showableAll, a2, b2, Bool.and_self], by simp only [PyData.hasDictAll, a3, b3, Bool.or_self], trivial⟩
    simp only [PyData.shownAll, nodesL, List.map_cons, List.sum_cons, List.length_cons]
    omega
end
theorem okShow_of {d : PyData} (hd : PyProof.Rows.isDisplay d = true) (hs : Small d) (hp : d.depth ≤ 60) (hn : nodes d ≤ 8000) : OkShow d := by
  obtain ⟨h1, h2, h3⟩ := small_show d hs
  refine ⟨.inl hd, h2, h3, hp, ?_⟩
  have : (2000 * 8000 : Nat) ≤ sizeLine := by decide
  omega
theorem okShow_none : OkShow .none := ⟨.inr rfl, rfl, rfl, by decide, by decide⟩
theorem small_int {i : Int} (h : i.natAbs < 2 ^ 64) : Small (.int i) := by
  simp only [Small]
  exact Nat.lt_trans (PySem.Flt.log2_lt_of (by decide) h) (by decide)
theorem small_intW {i : Int} (h : i.natAbs < 2 ^ 210) : Small (.int i) := by
  simp only [Small]
  exact Nat.lt_trans (PySem.Flt.log2_lt_of (by decide) h) (by decide)
theorem smallL_map {γ : Type} {g : γ → PyData} : ∀ l : List γ, (∀ x ∈ l, Small (g x)) → SmallL (l.map g)
  | [], _ => by simp [SmallL]
  | x :: l, h => by simp only [List.map_cons, SmallL]; exact ⟨h x List.mem_cons_self, smallL_map l fun y hy => h y (List.mem_cons_of_mem _ hy)⟩
theorem nodesL_map {γ : Type} {g : γ → PyData} {n : Nat} : ∀ l : List γ, (∀ x ∈ l, nodes (g x) ≤ n) → nodesL (l.map g) ≤ n * l.length
  | [], _ => by simp [nodesL]
  | x :: l, h => by
    have := h x List.mem_cons_self
    have := nodesL_map l fun y hy => h y (List.mem_cons_of_mem _ hy)
    simp only [List.map_cons, nodesL, List.length_cons, Nat.mul_succ]; omega
section
variable {env : PEnv} {st s1 : Store} {d : DS}
theorem wp_par {i j : Nat} {ds : PEnv → M (List PV)} {p q : PV} {P : Flow → Store → Prop} (e : ds env st = .ok [p, q] s1) (k : Ok (d ((env.set i (some p)).set j (some q)) s1) P) : Ok (seqD (parD i j ds) d env st) P := by
  refine Ok.eq ?_ k
  unfold seqD parD
  rw [e]; rfl
/-- two displays of the same data -/
theorem repr_eq {neg : Bool} {a b : DE} {p q : PV} {dd : PyData} {s2 : Store} (ha : a env st = .ok p s1) (hb : b env s1 = .ok q s2) (h1 : dataOf s1 p = some dd) (h2 : dataOf s2 q = some dd) (hs : OkShow dd) :
    d2 (eqD neg) (callD reprF (dCons a dNil)) (callD reprF (dCons b dNil)) env st = .ok (.bl (!neg)) s2 := by
  rw [ev_2, callD_ok (args1 ha args0) (ev_repr h1 hs), Res.bind_ok, callD_ok (args1 hb args0) (ev_repr h2 hs), Res.bind_ok]
  cases neg <;> simp [ev_eqs, ev_nes]
end
end CD

set_option Elab.async false
set_option linter.all false
set_option maxRecDepth 100000
set_option maxHeartbeats 2000000
namespace CD
open PySem PySem.Spec PyProof.Rows L2 RZ StX ClX
variable {X : Cx} {W : WX}
/-! ### defs with defaults among the positional parameters -/
theorem def_goD {P : Program} {w : World} {G : GC} {base : Heap} {x qual : Str} {st : Stmt} {f : Addr} {fd : FuncData} {N ps : List Str} {dvs : List V} {kws : List (Str × V)} {k : Nat} {d : DS} (F : FunD G.K x qual (defArgs st) (defBody st) (defScope st) dvs kws f fd) (S : FnScope N ps (defScope st))
    (hb : ∀ (cdv : Value) (A : Around) (outer : List Env) (s : Shared) (H : Hp) (E : XK), Room k (cxOf (L2N.CX P w) P w G.K G.mg base N qual (defScope st) f cdv A outer s H E).A →
      L2N.Takes (cxOf (L2N.CX P w) P w G.K G.mg base N qual (defScope st) f cdv A outer s H E) (fun cls d _ H => E cls d H) →
      PassesOwn (model P w) (cxOf (L2N.CX P w) P w G.K G.mg base N qual (defScope st) f cdv A outer s H E).A (cxOf (L2N.CX P w) P w G.K G.mg base N qual (defScope st) f cdv A outer s H E).env (cxOf (L2N.CX P w) P w G.K G.mg base N qual (defScope st) f cdv A outer s H E).xe →
      ∃ t, SSs (cxOf (L2N.CX P w) P w G.K G.mg base N qual (defScope st) f cdv A outer s H E) (fun cls d _ H => E cls d H) (defBody st) t d) : FnD P w G base (k + 1) f fd ps (bodyF N.length d) := by
  obtain ⟨oc, od, dV, kV, doc, pm, an, cdv, ct, osl, rfl, lk, hcd, _, _⟩ := F.ex
  refine fn_of lk hcd S (fun zs H Q E h => h.1) fun B o s H zs Q E hr hsp => ?_
  obtain ⟨t, h⟩ := hb cdv B o s H E hr tk_of hp_of
  refine ⟨t, h.pss, ?_⟩
  obtain ⟨_, r, pvs, sto, l, R, post⟩ := hsp
  refine h.so r _ H (pvs.map some ++ List.replicate (N.length - pvs.length) none) sto _ (EnvR.start l) R ?_
  unfold bodyF at post
  cases q : d (pvs.map some ++ List.replicate (N.length - pvs.length) none) sto with
  | stuck => rw [q] at post; exact post
  | ok fl st2 =>
    rw [q] at post
    cases fl with
    | nx env => exact fun r2 H2 s2 t2 R2 E2 => post r2 H2 t2 R2 _ rep_non
    | bk env => exact post.elim
    | ct env => exact post.elim
    | rt p => exact fun r2 H2 v t2 R2 k2 => post r2 H2 t2 R2 v k2
  | exc e v st2 => rw [q] at post; exact fun r2 H2 s2 cls dd t2 R2 E2 x => post r2 H2 cls dd t2 R2 x
/-- such a def run by its values, the last ones left out -/
theorem FnD.posD {P : Program} {w : World} {G : GC} {base : Heap} {k n : Nat} {f : Addr} {fd : FuncData} {ps : List Str} {F : List PV → M PV} {ds : List Value} {dvs : List V} {dps : List PV} (h : FnD P w G base k f fd ps F) (hb : Binds G.K fd ps ds) (hd : Vals dvs ds) (hdr : ∀ r H, RepL G r H dps dvs)
    (hn : n + dps.length = ps.length) : FnP P w G base k f n (fun qs => F (qs ++ dps)) :=
  (FnOk.raw h hb hd).imp fun vs H Q E ⟨q1, r, qs, st, l, R, post⟩ => ⟨by
    have := (hdr r H).len
    rw [List.length_append]; omega, r, qs ++ dps, st, l.append (hdr r H), R, post⟩
/-- keywords for all that is not positional, defaults looked up and not used -/
theorem kwb_d {K : PySem.W.Frag} {x qual : Str} {prm : Arguments} {body : List Stmt} {sc : Scope} {dvs : List V} {f : Addr} {fd : FuncData} {ps : List Str} {n : Nat} {ks : List Str} {ix : List (Nat × Nat)} (F : FunD K x qual prm body sc dvs [] f fd) (hd : dvs ≠ [])
    (h : ∀ (T : Addr) (kV doc pm : Value) (an : Option Addr) (cdv ct : Value) (us ws its : List Value), us.length = n → ws.length = ks.length → its.length = dvs.length →
      ∃ k, bindArgs (PySem.W.fnOf x qual prm body sc (.ref T) kV doc pm an cdv ct) ⟨us, ks.zip ws⟩ = seqItems? (.ref T) >>= k ∧ k (some its.toArray) = pure (ps.zip (pick us ws [] ix))) : KwB K fd ps n ks [] ix := by
  obtain ⟨oc, od, dV, kV, doc, pm, an, cdv, ct, osl, rfl, lk, hcd, hD, _⟩ := F.ex
  rcases hD with ⟨e, _⟩ | ⟨_, T, o, its, m, rfl, lT, oT, rT⟩
  · exact absurd e hd
  · intro s us ws X h1 h2
    obtain ⟨k, e1, e2⟩ := h T kV doc pm an cdv ct us ws its h1 h2 rT.length.symm
    refine BindsTo.of_looks fun M => ?_
    rw [e1]
    exact looks_items X lT oT (.of_pure e2)
/-- a def run with keywords -/
theorem runK {P : Program} {w : World} {G : GC} {base : Heap} {k n : Nat} {f : Addr} {fd : FuncData} {pa ks : List Str} {F : List PV → M PV} {dvs : List V} {ds : List Value} {ix : List (Nat × Nat)} (hF : FnD P w G base k f fd pa F) (hb : KwB G.K fd pa n ks ds ix) (hd : Vals dvs ds)
    {A : Around} {o : List Env} {s : Shared} {H : Hp} {us ws : List Value} {vs zs : List V} {Q : VK} {E : XK} (hr : Room k A) (e0 : Env0 P w G.K G.mg base A o s H) (r : Vals vs us) (rz : Vals zs ws) (l1 : vs.length = n) (l2 : zs.length = ks.length)
    (h : SpF G pa.length F (pick vs zs dvs ix) H Q E) : codeAny (model P w) A (.call (.ref f) ⟨us, ks.zip ws⟩) (CR (L2N.CX P w) o P w H s Q E) s :=
  hF.run A o s H ⟨us, ks.zip ws⟩ (pick us ws ds ix) (pick vs zs dvs ix) Q E hr e0 (hb s us ws (e0.mod.kin.keeps fun b u e => (e0.bs b u e).1) (r.length.symm.trans l1) (rz.length.symm.trans l2)) (pick_vals r rz hd ix) h
/-! ### a sum of lists that stays a place -/
def addLM : PV → PV → M PV := fun p q st => match lstOf st p, lstOf st q with
  | some a, some b => iteM (a.length + b.length ≤ sizeLine) (allocL (a ++ b)) st
  | _, _ => .stuck
theorem sop_addLM {G : GC} : SOp G rCat addLM := by
  intro r H st p q x y E Q R hx hy h
  unfold addLM at h
  split at h
  · rename_i a b ha hb
    obtain ⟨hc, h⟩ := Post.iteM h
    obtain ⟨l, vs, e1, f1, l1⟩ := lstOf_ok R hx ha
    obtain ⟨m, ws, e2, f2, l2⟩ := lstOf_ok R hy hb
    exact ⟨l, m, vs, ws, e1, e2, f1, f2, by rw [← l1.len, ← l2.len]; exact hc, alloc_ok R (l1.append l2) h⟩
  · exact h.elim
def addDM : PV → PV → M PV := orM (int2 (fun _ _ => True) fun i j => .int (i + j)) (orM addS (orM addT addLM isTup2) isStr2) isInt2
theorem se_addM {a b : Expr} {ta tb : TE} {da db : DE} {pos : Pos} (ha : SE X W a ta da) (hb : SE X W b tb db) :
    SE X W (.BinOp a .Add b pos) (tOp (rAddA X.K) ta tb) (d2 addDM da db) :=
  se_op (op_add.or (op_add_str.or (op_catA.or op_cat))) (SOp.or (SOp.i0 (sop_int fun _ _ _ _ => rep_int)) (SOp.or sop_addS (SOp.or sop_addT sop_addLM))) ha hb
theorem addM_ok {env : PEnv} {st s1 s2 : Store} {a b : DE} {p q : PV} {xs ys : List PV} (ha : a env st = .ok p s1) (hb : b env s1 = .ok q s2) (h1 : lstOf s2 p = some xs) (h2 : lstOf s2 q = some ys) (hn : isInt2 p q = false ∧ isStr2 p q = false ∧ isTup2 p q = false) (hl : xs.length + ys.length ≤ 100000) :
    d2 addDM a b env st = .ok (.loc s2.length) (s2 ++ [.lst (xs ++ ys)]) := by
  rw [ev_2, ha, Res.bind_ok, hb, Res.bind_ok]
  unfold addDM orM
  rw [hn.1, hn.2.1, hn.2.2]
  simp only [Bool.false_eq_true, if_false]
  unfold addLM
  rw [h1, h2]
  simp only
  exact sz_if hl
/-! ### C.m(..), m a classmethod -/
structure CMetF (G : GC) (c m : Str) (g : Addr) : Prop where
  cm : ∀ C, G.mg c = some (.ref C) → ∃ mc p, CRead G.K C mc ∧ CMet G.K C mc m p g
def tCM (C : Addr) (n : Nat) (F : List PV → M PV) (G : GC) (E : St → XK) (t : TA) : TE := fun σ H Q => t σ H fun vs H1 => SpF G n F (.ref C :: vs) H1 Q (E σ)
theorem se_cmeth {k n : Nat} {C g : Addr} {F : List PV → M PV} {c m : Str} {p0 apos pos : Pos} {e : Expr} {es : List Expr} {t : TA} {da : PEnv → M (List PV)} {pl : Sem Bool} (cf : CMetF (gc X) c m g) (hm : X.mg c = some (.ref C)) (hF : FnP X.prog X.w (gc X) X.base k g n F) (hr : Room k X.A)
    (tk : L2N.Takes X W) (ha : SA X W (e :: es) t da) (hg : Gl X c := by rfl) (hdb : (c == ("__debug__" : Str)) = false := by decide)
    (hst : starEach (e :: es) X.env = (false, eval e X.env) :: starEach es X.env := by rfl) (hpl : (backTo pos (starEach es X.env)).any (·.1) = false := by rfl)
    (ht : eval (.Call (.Attribute (.Name c p0) m apos) (e :: es) [] pos) X.env = (do
      let ov ← eval (.Name c p0) X.env
      standAt apos.atName
      let (f, first) ← holding [ov] (getMethod ov m pl)
      callWith pos f first (backTo pos (starEach (e :: es) X.env)) (backToKw pos (keywordEach [] X.env))) := by rfl) :
    SE X W (.Call (.Attribute (.Name c p0) m apos) (e :: es) [] pos) (tCM C n F (gc X) (fun s => WE W s) t) (callF n F (dCons (dC (.gl c)) da) []) := by
  obtain ⟨mc, p, cr, cm⟩ := cf.cm C hm
  refine ⟨⟨fun pins s σ H Q I h => ?_⟩, fun r s H env st Q E R h => ?_⟩
  · refine PySem.W.methodCall_KW (pl := pl) (thn ((show PE X (.Name c p0) (tC (.ref C)) from pe_glob hg hm rfl hdb).run pins s σ H (fun v H1 => v = .ref C ∧ H1 = H) I ⟨rfl, rfl⟩) fun u s1 ⟨v, H1, I1, r1, q1⟩ => ?_) ht
    obtain ⟨rfl, rfl⟩ := q1
    obtain rfl : u = Value.ref C := r1
    refine getmethcm_ok I1 cr cm fun s2 I2 => ?_
    refine callwith_cm I2 (base_none I1 (Nat.le_refl _)) cm.fi (thn (ha.pa.run pos _ s2 σ H1 _ I2 h) fun us s3 ⟨vs, H2, I3, rv, q2⟩ => ⟨⟨pin_at I3, I3.kIn⟩, ?_⟩) hst hpl
    have z : wpAny (model X.prog X.w) X.A (call (.ref _) us) (EP X _ σ Q) X.xe s3 :=
      wpAny_call (PySem.W.method_call (pin_at I3) (codeAny_mono (hF X.A X.stack s3 H2 (.ref C :: us) (.ref C :: vs) Q _ hr I3.env0 (.cons rfl rv) q2) fun rr s' hq => by
        cases rr with
        | error e => exact L2N.passAt tk σ _ H2 s3 e s' I3 hq
        | ok fl => cases fl with
          | ret u => exact I3.after hq
          | next => exact hq.elim
          | brk => exact hq.elim
          | cont => exact hq.elim))
    exact thn z fun _ _ y => unpinE y
  · refine ha.so r s H env st _ E R ?_
    have h2 : Post (gc X) (fun c d H => W c d s H) r H ((da env st).bind fun ps st => if (.gl c :: ps).length = n then F (.gl c :: ps) st else .stuck) (okE (gc X) Q) := by
      refine cast ?_ h
      unfold callF dCons dC
      simp only [Res.bind]
      cases da env st <;> simp
    refine h2.bind.imp fun ps st1 r1 H1 t1 R1 h1 vs hv => ?_
    split at h1
    · rename_i hl
      have lv : RepL (gc X) r1 H1 (.gl c :: ps) (.ref C :: vs) := RepL.cons (by simp only [Rep]; exact ⟨C, rfl, hm⟩) hv
      exact ⟨by rw [← lv.len]; exact hl, r1, _, st1, lv, R1, h1⟩
    · exact h1.elim
/-! ### C(..), C the value of a local name -/
def tMakeV (i : Nat) (C : Addr) (sp : Sp) (E : St → XK) (t : TA) : TE := fun s H Q => s[i]? = some (some (.ref C)) ∧ tMakeA C sp E t s H Q
def callMV (i n : Nat) (c : Str) (F : List PV → M PV) (ds : PEnv → M (List PV)) : DE := fun env st => match env[i]? with
  | some (some (.gl c')) => if c' = c then callM n c F ds env st else .stuck
  | _ => .stuck
theorem se_makeV {k n : Nat} {C f : Addr} {F : List PV → M PV} {c x : Str} (i : Nat) {p pos : Pos} {e : Expr} {es : List Expr} {t : TA} {da : PEnv → M (List PV)} (M : Mk X.K C f) (hF : FnP X.prog X.w (gc X) X.base k f n F) (hr : Room (k + 1) X.A) (hm : X.mg c = some (.ref C))
    (tk : L2N.Takes X W) (ha : SA X W (e :: es) t da) (hN : X.N[i]? = some x := by rfl) (hv : Vis X.env.scope x := by first | exact Or.inl rfl | exact Or.inr (Or.inl rfl) | exact Or.inr (Or.inr rfl)) (hdb : (x == ("__debug__" : Str)) = false := by decide) (hcd : (x == ("__classdict__" : Str)) = false := by decide)
    (he : starEach (e :: es) X.env = (false, eval e X.env) :: starEach es X.env := by rfl) (hpl : (backTo pos (starEach es X.env)).any (·.1) = false := by rfl) :
    SE X W (.Call (.Name x p) (e :: es) [] pos) (tMakeV i C (SpF (gc X) n F) (fun s => WE W s) t) (callMV i n c F da) := by
  refine ⟨⟨fun pins s σ H Q I h => ?_⟩, fun r s H env st Q E R h => ?_⟩
  · obtain ⟨hs, h⟩ := h
    refine wpAny_Call_Name_kw (thn ((pe_var (pos := p) hN hv hdb hcd).run pins s σ H (fun v H1 => v = .ref C ∧ H1 = H) I ⟨.ref C, hs, rfl, rfl⟩) fun u s1 ⟨v, H1, I1, r1, q1⟩ => ?_)
    obtain ⟨rfl, rfl⟩ := q1
    cases r1
    refine PySem.W.callWith_K (h₀ := X.base) I.ok.mod.kin M.kp (thn (ha.pa.run pos pins s1 σ _ _ I1 h) fun us s2 ⟨vs, H2, I2, rv, q⟩ => ⟨I2.kIn, ?_⟩) he hpl
    exact run_makeA M hF hr (L2N.passAt tk σ) I2 rv q
  · unfold callMV at h
    split at h
    · rename_i c' hc'
      split at h
      · rename_i hcc
        subst hcc
        obtain ⟨v, hv1, hv2⟩ := E.2 i _ hc'
        simp only [Rep] at hv2
        obtain ⟨a, rfl, ha2⟩ := hv2
        rw [hm] at ha2
        cases ha2
        refine ⟨hv1, ?_⟩
        refine ha.so r s H env st _ E R ((show Post _ _ _ _ ((da env st).bind _) _ from h).bind.imp fun ps st1 r1 H1 t1 R1 h1 vs hv => ?_)
        split at h1
        · rename_i hl
          exact make_post hm hl hv R1 h1
        · exact h1.elim
      · exact h.elim
    · exact h.elim
/-! ### C(k = v, ..) -/
def tMakeK (C : Addr) (sp : Sp) (m : Nat) (l : List (Nat × Nat)) (E : St → XK) (t : TA) : TE := fun σ H Q => t σ H fun zs H1 => zs.length = m ∧ ∀ x dx, H1 x = none → H1 dx = none → dx ≠ x →
  sp (.ref x :: pick [] zs [] l) (upd (upd H1 dx (.own x)) x (.ins C dx [])) (fun v H2 => v = .non ∧ Q (.ref x) H2) (E σ)
def callMK (c : Str) (m k : Nat) (l : List (Nat × Nat)) (F : List PV → M PV) (dk : PEnv → M (List PV)) : DE := fun env st => (dk env st).bind fun qs st => if qs.length = m ∧ (pick [] qs [] l).length + 1 = k then makeF c F (pick [] qs [] l) st else .stuck
theorem se_makeK {k : Nat} {C f : Addr} {fd : FuncData} {pa ks : List Str} {F : List PV → M PV} {l : List (Nat × Nat)} {x : Str} {p pos : Pos} {kws : List Keyword} {tk : TA} {dk : PEnv → M (List PV)} (M : Mk X.K C f) (hF : FnD X.prog X.w (gc X) X.base k f fd pa F) (hr : Room (k + 1) X.A) (hm : X.mg x = some (.ref C))
    (hb : KwB X.K fd pa 1 ks [] ((0, 0) :: l)) (tq : L2N.Takes X W) (hk : SKw X W kws tk dk) (hl : ∀ (a : V) (zs : List V), pick [a] zs [] ((0, 0) :: l) = a :: pick [] zs [] l := by intros; rfl) (hg : Gl X x := by rfl) (hdb : (x == ("__debug__" : Str)) = false := by decide)
    (hall : (backToKw pos (keywordEach kws X.env)).all (·.1.isSome) = true := by rfl) (hks : (backToKw pos (keywordEach kws X.env)).filterMap (·.1) = ks := by rfl)
    (hpl : ((backTo pos (starEach [] X.env)).any (·.1) || (backToKw pos (keywordEach kws X.env)).any (·.1.isNone)) = false := by rfl) :
    SE X W (.Call (.Name x p) [] kws pos) (tMakeK C (SpF (gc X) pa.length F) ks.length l (fun s => WE W s) tk) (callMK x ks.length pa.length l F dk) := by
  refine ⟨⟨fun pins s σ H Q I h => ?_⟩, fun r s H env st Q E R h => ?_⟩
  · refine wpAny_Call_Name_kw (ld_glob I hg hm ?_ hdb)
    refine PySem.W.callWith_KW0 (h₀ := X.base) I.ok.mod.kin M.kp hall (thn (hk.pk.run pos pins s σ H _ I h) fun ws s2 ⟨zs, H2, I2, rz, l2, q2⟩ => ⟨I2.kIn, ?_⟩) hpl
    rw [hks]
    have hq := q2 (s2.heap.objs.size + 1) s2.heap.objs.size (I2.hok.fresh (Nat.le_succ _)) (I2.hok.fresh (Nat.le_refl _)) (Nat.ne_of_lt (Nat.lt_succ_self _))
    have J := Inv.made (C := C) I2
    rw [← hl] at hq
    refine wpAny_call (make_map (f := f) I2.kIn M.makes M.init (beq_iff_eq.mp M.fn) (codeAny_mono (runK (us := [Value.ref (s2.heap.objs.size + 1)]) (vs := [V.ref (s2.heap.objs.size + 1)]) hF hb .nil (hr.make C [] (ks.zip ws)) (J.env0.make C [] (ks.zip ws)) (.cons rfl .nil) rz rfl l2 hq) fun rr s3 hq' => ?_))
    cases rr with
    | error e => exact L2N.passAt tq σ pins _ _ e s3 J hq'
    | ok fl => cases fl with
      | ret u =>
        obtain ⟨v, H3, I3, rv, ev, q3⟩ := J.after hq'
        subst ev
        exact ⟨rv, ⟨V.ref (s2.heap.objs.size + 1), H3, I3, rfl, q3⟩⟩
      | next => exact hq'.elim
      | brk => exact hq'.elim
      | cont => exact hq'.elim
  · refine hk.so r s H env st _ E R (h.bind.imp fun qs st1 r1 H1 t1 R1 h1 zs hz => ?_)
    split at h1
    · rename_i hc
      exact ⟨by rw [← hz.len]; exact hc.1, make_post hm hc.2 (pick_rep RepL.nil hz RepL.nil l) R1 h1⟩
    · exact h1.elim
/-! ### o(k = v, ..), o an instance -/
theorem callO_kw {M : Model} {B : Around} {E : Value → Shared → Prop} {t : Shared} {b : Addr} {pos : Pos} {Q : Value → Shared → Prop} {ar : List (Bool × Sem Value)} {kw : List (Option Str × Sem Value)} (hp : (ar.any (·.1) || kw.any (·.1.isNone)) = false)
    (h : wpAny M B (evalArgs (.ref b) true ar kw) (fun z t1 => (∃ C ox od, PySem.W.InstAt t1.heap b ox C od ∧ ox.data = .plain) ∧ wpAny M B (call (.ref b) ([] ++ z.pos) z.kw) Q E t1) E t) : wpAny M B (callWith pos (.ref b) [] ar kw) Q E t := by
  unfold callWith
  refine wpAny_bind (wpAny_holding (wpAny_mono h (fun z t1 g => wpAny_bind (wpAny_standAt ?_)) fun _ _ y => y))
  obtain ⟨⟨C, ox, od, J, hd⟩, g⟩ := g
  simp only [hp]
  refine wpAny_bind ((PySem.W.kco_keeper (M := M) J hd).here ?_)
  have last : ∀ {u : Sem Value}, wpAny M B u Q E t1 → wpAny M B (u >>= fun r => holding [r] point >>= fun _ => pure r) Q E t1 := by
    intro u hu
    exact wpAny_bind (wpAny_mono hu (fun r _ hr => wpAny_bind (wpAny_holding (wpAny_point (wpAny_pure hr)))) fun _ _ y => y)
  exact last (wpAny_operateT g)
def tCallOK (G : GC) (c : Str) (n m : Nat) (F : List PV → M PV) (l : List (Nat × Nat)) (E : St → XK) (tf : TE) (t : TA) : TE := fun σ H Q => tf σ H fun y H1 => ∃ a, y = .ref a ∧ t σ H1 fun zs H2 => zs.length = m ∧ ∃ C dx fs, G.mg c = some (.ref C) ∧ H2 a = some (.ins C dx fs) ∧ SpF G n F (.ref a :: pick [] zs [] l) H2 Q (E σ)
def callOK (n m : Nat) (c : Str) (l : List (Nat × Nat)) (F : List PV → M PV) (d : DE) (dk : PEnv → M (List PV)) : DE := fun env st => (d env st).bind fun p st => match insOf st p with
  | some _ => (dk env st).bind fun qs st => if qs.length = m then callO n c F p (pick [] qs [] l) st else .stuck
  | none => .stuck
theorem se_callOK {k : Nat} {g : Addr} {fd : FuncData} {pa ks : List Str} {F : List PV → M PV} {c : Str} {l : List (Nat × Nat)} {fe : Expr} {kws : List Keyword} {tf : TE} {tk : TA} {df : DE} {dk : PEnv → M (List PV)} {pos : Pos} (S : CallF (gc X) c g) (hF : FnD X.prog X.w (gc X) X.base k g fd pa F) (hr : Room k X.A)
    (hb : KwB X.K fd pa 1 ks [] ((0, 0) :: l)) (tq : L2N.Takes X W) (hf : SE X W fe tf df) (hk : SKw X W kws tk dk) (hl : ∀ (a : V) (zs : List V), pick [a] zs [] ((0, 0) :: l) = a :: pick [] zs [] l := by intros; rfl)
    (ht : eval (.Call fe [] kws pos) X.env = (do callWith pos (← eval fe X.env) [] (backTo pos (starEach [] X.env)) (backToKw pos (keywordEach kws X.env))) := by rfl)
    (hall : (backToKw pos (keywordEach kws X.env)).all (·.1.isSome) = true := by rfl) (hks : (backToKw pos (keywordEach kws X.env)).filterMap (·.1) = ks := by rfl)
    (hpl : ((backTo pos (starEach [] X.env)).any (·.1) || (backToKw pos (keywordEach kws X.env)).any (·.1.isNone)) = false := by rfl) :
    SE X W (.Call fe [] kws pos) (tCallOK (gc X) c pa.length ks.length F l (fun s => WE W s) tf tk) (callOK pa.length ks.length c l F df dk) := by
  refine ⟨⟨fun pins s σ H Q I h => ?_⟩, fun r s H env st Q E R h => ?_⟩
  · rw [ht]
    refine wpAny_bind (thn (hf.pe.run pins s σ H _ I h) fun u s1 ⟨y, H1, I1, ry, a, ey, q⟩ => ?_)
    subst ey
    obtain rfl : u = Value.ref a := ry
    refine callO_kw hpl (PyProof.Rows.evalArgs_kw2_nil hall (thn (hk.pk.run pos pins s1 σ H1 _ I1 q) fun ws s2 ⟨zs, H2, I2, rz, l2, C, dx, fs, m, ea, q2⟩ => ?_))
    obtain ⟨mA, O, _, _, _, _⟩ := ins_get I2.hok ea
    obtain ⟨od, J, _⟩ := O.look
    rw [hks]
    rw [← hl] at q2
    refine ⟨⟨C, _, od, J, rfl⟩, wpAny_call (PySem.W.kco_code I2.kIn J rfl (S.at_ C m) S.fn S.fi ?_)⟩
    refine codeAny_mono (runK (us := [.ref a]) (vs := [.ref a]) hF hb .nil hr I2.env0 (.cons rfl .nil) rz rfl l2 q2) fun rr s3 hq => ?_
    cases rr with
    | error e => exact L2N.passAt tq σ pins H2 s2 e s3 I2 hq
    | ok fl => cases fl with
      | ret u => exact I2.after hq
      | next => exact hq.elim
      | brk => exact hq.elim
      | cont => exact hq.elim
  · refine hf.so r s H env st _ E R (h.bind.imp fun p st1 r1 H1 t1 R1 h1 y hy => ?_)
    split at h1
    · rename_i z hi
      obtain ⟨c0, ns, fs⟩ := z
      obtain ⟨a, C, dx, gs, rfl, m, ea, z, _⟩ := insOf_ok R1 hy hi
      refine ⟨a, rfl, ?_⟩
      refine hk.so r1 s H1 env st1 _ (E.step t1) R1 (h1.bind.imp fun qs st2 r2 H2 t2 R2 h2 zs hz => ?_)
      split at h2
      · rename_i hc
        obtain ⟨a2, C, dx, fs, e, m, ea, q⟩ := callO_ok R2 (Rep.step t2 _ _ hy) (pick_rep RepL.nil hz RepL.nil l) h2
        cases e
        exact ⟨by rw [← hz.len]; exact hc, C, dx, fs, m, ea, q⟩
      · exact h2.elim
    · exact h1.elim
end CD

set_option Elab.async false
set_option linter.all false
set_option maxRecDepth 100000
set_option maxHeartbeats 2000000
namespace CD
open PySem L2
/-! ### expressions with effects, by steps -/
section
variable {env : PEnv} {st : Store}
theorem ok_cons {d : DE} {ds : PEnv → M (List PV)} {P : List PV → Store → Prop} (h : Ok (d env st) fun p s => Ok (ds env s) fun ps s' => P (p :: ps) s') : Ok (dCons d ds env st) P := by
  obtain ⟨p, s, e, ps, s', e', k⟩ := h
  exact ⟨_, _, args1 e e', k⟩
theorem ok_nil {P : List PV → Store → Prop} (h : P [] st) : Ok (dNil env st) P := ⟨_, _, rfl, h⟩
theorem ok_callF {n : Nat} {F : List PV → M PV} {ds : PEnv → M (List PV)} {P : PV → Store → Prop} (h : Ok (ds env st) fun ps s => ps.length = n ∧ Ok (F ps s) P) : Ok (callF n F ds [] env st) P := by
  obtain ⟨ps, s, e, hl, k⟩ := h
  rw [callF_ok e hl rfl]; exact k
theorem ok_callD {f : List PV → M PV} {ds : PEnv → M (List PV)} {P : PV → Store → Prop} (h : Ok (ds env st) fun ps s => Ok (f ps s) P) : Ok (callD f ds env st) P := by
  obtain ⟨ps, s, e, k⟩ := h
  rw [callD_ok e rfl]; exact k
theorem ok_2 {f : PV → PV → M PV} {a b : DE} {P : PV → Store → Prop} (h : Ok (a env st) fun p s => Ok (b env s) fun q s' => Ok (f p q s') P) : Ok (d2 f a b env st) P := by
  rw [ev_2]; exact Ok.bind (h.mono fun p s k => Ok.bind k)
theorem ok_tup {ds : PEnv → M (List PV)} {P : PV → Store → Prop} (h : Ok (ds env st) fun ps s => ps.length ≤ 100000 ∧ P (.tup ps) s) : Ok (tupD ds env st) P := by
  obtain ⟨ps, s, e, hl, k⟩ := h
  refine ⟨_, _, ?_, k⟩
  unfold tupD; rw [e, Res.bind_ok]; exact sz_if hl
theorem ok_lst {ds : PEnv → M (List PV)} {P : PV → Store → Prop} (h : Ok (ds env st) fun ps s => ps.length ≤ 100000 ∧ P (.lst ps) s) : Ok (lstD ds env st) P := by
  obtain ⟨ps, s, e, hl, k⟩ := h
  exact ⟨_, _, lst_ok' e hl, k⟩
theorem wp_retO {d : DS} {de : DE} {P : Flow → Store → Prop} (h : Ok (de env st) fun p s => P (.rt p) s) : Ok (seqD (retD de) d env st) P := by
  obtain ⟨p, s, e, k⟩ := h; exact wp_ret e k
theorem wp_exprO {d : DS} {de : DE} {P : Flow → Store → Prop} (h : Ok (de env st) fun p s => Ok (d env s) P) : Ok (seqD (exprD de) d env st) P := by
  obtain ⟨p, s, e, k⟩ := h; exact wp_expr e k
theorem wp_parO {d : DS} {i j : Nat} {ds : PEnv → M (List PV)} {P : Flow → Store → Prop} (h : Ok (ds env st) fun ps s => ∃ p q, ps = [p, q] ∧ Ok (d ((env.set i (some p)).set j (some q)) s) P) : Ok (seqD (parD i j ds) d env st) P := by
  obtain ⟨_, s, e, p, q, rfl, k⟩ := h; exact wp_par e k
theorem wp_lc {k : List PV → M PV} {it : PEnv → M (List PV)} {vs : List Nat} {tg : PV → PEnv → M PEnv} {e : DE} {xs : List PV} {s0 : Store} {P : PV → Store → Prop} (J : Nat → List PV → Store → Prop) (hi : it env st = .ok xs s0) (hl : xs.length ≤ 100000) (h0 : J 0 [] s0)
    (hs : ∀ (i : Nat) (x : PV) (acc : List PV) (s : Store), xs[i]? = some x → J i acc s → Ok (tg x (wipeE env vs) s) fun e1 s1 => Ok (e e1 s1) fun p s2 => J (i + 1) (acc ++ [p]) s2)
    (hk : ∀ acc s, J xs.length acc s → Ok (k acc s) P) : Ok (lcD k it vs tg yesB e env st) P := by
  obtain ⟨acc, s, h, hj⟩ := lcL_inv (g := tg) (t := yesB) (e := e) (env := wipeE env vs) J xs 0 [] s0 (by simpa using hl) h0 (fun i x acc s hx hj => by
    rw [Nat.zero_add] at hj ⊢
    obtain ⟨e1, s1, q1, p, s2, q2, h⟩ := hs i x acc s hx hj
    exact ⟨e1, s1, q1, .inl ⟨s1, p, s2, rfl, q2, h⟩⟩)
  rw [Nat.zero_add] at hj
  refine Ok.eq ?_ (hk acc s hj)
  unfold lcD
  rw [hi, Res.bind_ok, h, noX_ok, Res.bind_ok]
theorem okL_ok {acc : List PV} {P : PV → Store → Prop} (h : P (.lst acc) st) : Ok (okL acc st) P := ⟨_, _, rfl, h⟩
theorem atI_all {xs : List PV} {v : Int} {P : PV → Prop} (h : ∀ x ∈ xs, P x) (h0 : 0 ≤ v) (h1 : v < xs.length) : ∃ x, atI xs v = some x ∧ P x := by
  have hk : v.toNat < xs.length := by omega
  refine ⟨xs[v.toNat], ?_, h _ (List.getElem_mem hk)⟩
  have : atI xs ((v.toNat : Nat) : Int) = some xs[v.toNat] := atI_nat' (List.getElem?_eq_getElem hk)
  rw [show ((v.toNat : Nat) : Int) = v by omega] at this
  exact this
theorem tupF_l {xs : List PV} : tupF [.lst xs] st = .ok (.tup xs) st := rfl
theorem tupF_t {xs : List PV} : tupF [.tup xs] st = .ok (.tup xs) st := rfl
theorem tupF_loc {l : Nat} {xs : List PV} (h : st[l]? = some (.lst xs)) : tupF [.loc l] st = .ok (.tup xs) st := by
  unfold tupF
  simp only [tupOf, sqlOf, lstOf, h]
end
/-! ### lists of cells whose values name places below -/
mutual
theorem sub_mono {n m : Nat} (h : n ≤ m) : ∀ p q : PV, sub (lower n) p = some q → sub (lower m) p = some q
  | .loc l, q, e => by
    simp only [sub, lower] at e ⊢
    split at e
    · rename_i hl
      rw [if_pos (Nat.lt_of_lt_of_le hl h)]; exact e
    · cases e
  | .tup xs, q, e => by simp only [sub] at e ⊢; obtain ⟨ys, ey, rfl⟩ := map_some e; rw [subL_mono h xs ys ey]; rfl
  | .lst xs, q, e => by simp only [sub] at e ⊢; obtain ⟨ys, ey, rfl⟩ := map_some e; rw [subL_mono h xs ys ey]; rfl
  | .rls xs, q, e => by simp only [sub] at e ⊢; obtain ⟨ys, ey, rfl⟩ := map_some e; rw [subL_mono h xs ys ey]; rfl
  | .obj c ns xs, q, e => by simp only [sub] at e ⊢; obtain ⟨ys, ey, rfl⟩ := map_some e; rw [subL_mono h xs ys ey]; rfl
  | .dct lk ks xs, q, e => by simp only [sub] at e ⊢; obtain ⟨ys, ey, rfl⟩ := map_some e; rw [subL_mono h xs ys ey]; rfl
  | .non, q, e => by simp only [sub] at e ⊢; exact e
  | .bl _, q, e => by simp only [sub] at e ⊢; exact e
  | .int _, q, e => by simp only [sub] at e ⊢; exact e
  | .str _, q, e => by simp only [sub] at e ⊢; exact e
  | .ty _, q, e => by simp only [sub] at e ⊢; exact e
  | .gl _, q, e => by simp only [sub] at e ⊢; exact e
theorem subL_mono {n m : Nat} (h : n ≤ m) : ∀ p q : List PV, subL (lower n) p = some q → subL (lower m) p = some q
  | [], q, e => by simp only [subL] at e ⊢; exact e
  | x :: xs, q, e => by
    simp only [subL] at e ⊢
    cases q1 : sub (lower n) x with
    | none => rw [q1] at e; cases e
    | some x' =>
      cases q2 : subL (lower n) xs with
      | none => rw [q1, q2] at e; cases e
      | some xs' => rw [q1, q2] at e; cases e; rw [sub_mono h x x' q1, subL_mono h xs xs' q2]
end
theorem belowC_mono {n m : Nat} (h : n ≤ m) {c : Cell} (k : belowC n c = true) : belowC m c = true := by
  cases c with
  | dead => rfl
  | lst xs =>
    simp only [belowC] at k ⊢
    cases q : subL (lower n) xs with
    | none => rw [q] at k; cases k
    | some ys => rw [subL_mono h xs ys q]
  | ins c ns fs =>
    simp only [belowC] at k ⊢
    cases q : subL (lower n) fs with
    | none => rw [q] at k; cases k
    | some ys => rw [subL_mono h fs ys q]
  | dct ks xs =>
    simp only [belowC] at k ⊢
    cases q : subL (lower n) xs with
    | none => rw [q] at k; cases k
    | some ys => rw [subL_mono h xs ys q]
def Below (st : Store) : Prop := st.all (belowC st.length) = true
theorem Below.app {st cs : Store} (h : Below st) (F : Flat cs) : (st ++ cs).all (belowC (st ++ cs).length) = true := by
  rw [List.all_append, Bool.and_eq_true]
  refine ⟨List.all_eq_true.mpr fun c hc => belowC_mono (by simp) (List.all_eq_true.mp h c hc), F.below _⟩
/-- what an exit asks where the caller's store is sc -/
theorem leave_app {sc : Store} (h : sc.all (belowC sc.length) = true) {n : Nat} (hn : sc.length = n) {p : PV} (hp : flat p = true) {cs : List Cell} : ∃ q, sub (thaw n (sc ++ cs) 4) p = some q ∧ ((sc ++ cs).take n).all (belowC n) = true ∧ q = p ∧ (sc ++ cs).take n = sc := by
  subst hn
  exact ⟨p, sub_flat p hp, by simpa using h, rfl, by simp⟩
end CD

set_option Elab.async false
set_option linter.all false
set_option maxRecDepth 100000
set_option maxHeartbeats 2000000
/-! # isinstance with a tuple of classes, freshly laid -/
namespace CD
open PySem PySem.Spec PyProof.Rows L2 RZ StX ClX
theorem kit1 {G : GC} {own : List Str} {tab : IT} (T : IsiT G own tab) {r : Loc} {H : Hp} {t : TN} {c : PV} {y : V} {u : Value} {b : Bool} (ky : Rep G r H c y) (hu : tnV G t u) (hb : isiA own tab t c = some b) : ∃ w, ClsV y w ∧ PySem.W.kitOne G.K u w = some b := by
  cases c with
  | ty n =>
    simp only [Rep] at ky
    subst ky
    refine ⟨.type n, .ty n, ?_⟩
    cases t with
    | b z =>
      simp only [isiA] at hb
      obtain ⟨w, hw, rfl⟩ := map_some hb
      cases btOf_nm hw
      cases hu
      exact kit_ty (isiBB_ok z w)
    | o z =>
      simp only [isiA] at hb
      split at hb
      · rename_i w hw
        split at hb
        · rename_i hm
          cases hb
          cases btOf_nm hw
          obtain ⟨C, m, rfl⟩ := hu
          exact (T.o z hm).ob C w m
        · cases hb
      · cases hb
  | gl d =>
    simp only [Rep] at ky
    obtain ⟨D, rfl, mD⟩ := ky
    refine ⟨.ref D, .own D, ?_⟩
    cases t with
    | b z =>
      simp only [isiA] at hb
      split at hb
      · rename_i hm
        cases hb
        cases hu
        exact (T.o d hm).bo D z mD
      · cases hb
    | o z =>
      simp only [isiA] at hb
      split at hb
      · obtain ⟨C, m, rfl⟩ := hu
        exact (T.p _ (findT_ok hb)).oo C D m mD
      · cases hb
  | _ => cases t <;> cases hb
theorem isiA_own {own : List Str} {tab : IT} {t : TN} {c : PV} {b : Bool} (hb : isiA own tab t c = some b) : ∀ d, t = .o d → d ∈ own := fun d e => by
  subst e
  cases c with
  | ty n =>
    simp only [isiA] at hb
    split at hb
    · split at hb
      · rename_i hm; exact hm
      · cases hb
    · cases hb
  | gl z =>
    simp only [isiA] at hb
    split at hb
    · rename_i hm; exact hm
    · cases hb
  | _ => cases hb
def isiL (own : List Str) (tab : IT) (t : TN) : List PV → Option Bool
  | [] => some false
  | c :: cs => match isiA own tab t c with
    | some b => (isiL own tab t cs).map fun r => b || r
    | none => none
theorem kitL {G : GC} {own : List Str} {tab : IT} (T : IsiT G own tab) {r : Loc} {H : Hp} {t : TN} {u : Value} (hu : tnV G t u) : ∀ {cs : List PV} {ys : List V} {b : Bool}, RepL G r H cs ys → isiL own tab t cs = some b → ∃ us, Paired ClsV ys us ∧ PySem.W.kitAny G.K u us = some b
  | [], ys, b, ky, hb => by
    simp only [RepL] at ky
    subst ky
    cases hb
    exact ⟨[], .nil, kitAny_nil⟩
  | c :: cs, ys, b, ky, hb => by
    simp only [RepL] at ky
    obtain ⟨y, ys1, rfl, k1, k3⟩ := ky
    simp only [isiL] at hb
    split at hb
    · rename_i b1 h1
      obtain ⟨b2, h2, rfl⟩ := map_some hb
      obtain ⟨w, w1, w2⟩ := kit1 T k1 hu h1
      obtain ⟨us, u1, u2⟩ := kitL T hu k3 h2
      exact ⟨w :: us, .cons w1 u1, kitAny_cons w2 (fun e => by subst e; simpa using u2) (fun e => by subst e; rfl)⟩
    · cases hb
def isiTF (own : List Str) (tab : IT) (p : PV) (cs : List PV) : M PV := fun st => match cs with
  | [] => .stuck
  | c :: cs => match tnOf st p with
    | some t => match isiL own tab t (c :: cs) with
      | some b => .ok (.bl b) st
      | none => .stuck
    | none => .stuck
def isiTD (own : List Str) (tab : IT) (d : DE) (ds : PEnv → M (List PV)) : DE := fun env st => (d env st).bind fun p st1 => (ds env st1).bind fun cs st2 => iteM (cs.length ≤ sizeLine) (isiTF own tab p cs) st2
section
variable {X : Cx} {W : WX} {own : List Str} {tab : IT} {e : Expr} {cs : List Expr} {te : TE} {tc : TA} {de : DE} {dc : PEnv → M (List PV)} {x : Str} {p pos : Pos} {k} {p2 : Pos}
theorem se_isiT (T : IsiT (gc X) own tab) (hg : Gl X x) (hm : X.mg x = none) (hv : bootBuiltins x = some (.builtin "isinstance")) (he : SE X W e te de) (hc : SA X W cs tc dc) (hn : x ≠ "__name__" := by decide) (hdb : (x == ("__debug__" : Str)) = false := by decide)
    (h0 : starEach (e :: [.Tuple cs k p2]) X.env = (false, eval e X.env) :: starEach [.Tuple cs k p2] X.env := by rfl) (h1 : starEach [.Tuple cs k p2] X.env = (false, eval (.Tuple cs k p2) X.env) :: starEach [] X.env := by rfl) (hpl : (backTo pos (starEach [.Tuple cs k p2] X.env)).any (·.1) = false := by rfl) :
    SE X W (.Call (.Name x p) (e :: [.Tuple cs k p2]) [] pos) (tCB (rIsiT X.K) (tCons te (tCons (tTup tc) tNil))) (isiTD own tab de dc) := by
  refine ⟨pe_callB call_isiT hg hm hv (pa_cons he.pe (pa_cons (pe_tup hc.pa) pa_nil h1) h0) hn hdb h0 hpl, fun r s H env st Q E R q => ?_⟩
  refine he.so r s H env st _ E R (q.bind.imp fun pv st1 r1 H1 t1 R1 h1 x hx => ?_)
  refine hc.so r1 s H1 env st1 _ (E.step t1) R1 (h1.bind.imp fun ps st2 r2 H2 t2 R2 h2 vs hv => ?_)
  obtain ⟨hz, h2⟩ := Post.iteM h2
  refine ⟨by rw [← hv.len]; exact hz, fun q' n => ?_⟩
  unfold isiTF at h2
  split at h2
  · exact h2.elim
  · rename_i c cs'
    split at h2
    · rename_i t ht
      split at h2
      · rename_i b hb
        have ho : ∀ d, t = .o d → IsiF (gc X) d := fun d e => by
          simp only [isiL] at hb
          split at hb
          · rename_i b1 hb1; exact T.o d (isiA_own hb1 d e)
          · cases hb
        have S := Step.new1 (r := r2) (o := .tup vs) n
        obtain ⟨u, hu, ty⟩ := tn_ok (R2.new1 n) (Rep.step (t2.trans S) pv x hx) ht ho
        obtain ⟨us, u1, u2⟩ := kitL T hu hv hb
        exact ⟨x, q', vs, u, us, b, rfl, upd_same, u1, ty, u2, h2 _ _ S (R2.new1 n) _ rep_bl⟩
      · exact h2.elim
    · exact h2.elim
end
end CD

set_option Elab.async false
set_option linter.all false
set_option maxRecDepth 100000
set_option maxHeartbeats 2000000
/-! # own == of a class, and != by object.__ne__ -/
namespace CD
open PySem PySem.Spec PyProof.Rows L2 RZ StX ClX
section
variable {prog : Program} {w : World} {A : Around} {E : Value → Shared → Prop} {s : Shared} {K : PySem.W.Frag} {x C L f : Addr} {h₀ : Heap} {m : Str → Option Value} {ox : Obj} {od : Option Obj} {b : Value}
theorem ifBound_ne {M : Model} {args : List Value} {Q : Option Value → Shared → Prop} (X : K.In s.heap) (I : PySem.W.InstAt s.heap x ox C od) (hs : PySem.W.findIn K (.ref C) "__ne__" = some (some (.builtin "object.__ne__")))
    (h : wpAny M A (call (.builtin "object.__ne__") (.ref x :: args)) (fun v => Q (some v)) E s) : wpAny M A (callSpecialIfBound? (.ref x) "__ne__" args) Q E s := by
  simp only [callSpecialIfBound?, bindSpecialIfBound?]
  refine wpAny_holding (wpAny_bind (wpAny_bind (wpAny_bind (I.type.here ((PySem.W.looks_findIn X hs).here ?_)))))
  simp only [PySem.F.cmp_object.ne.bind]
  refine wpAny_bind (wpAny_askSetting (wpAny_ite ?_))
  have fin : wpAny M A (call (.builtin "object.__ne__") ([.ref x] ++ args) >>= fun v => pure (some v)) Q E s := wpAny_bind (wpAny_mono h (fun v s' h' => wpAny_pure h') fun _ _ h' => h')
  split
  · exact wpAny_bind (wpAny_pure (wpAny_pure fin))
  · exact wpAny_tryCatch (wpAny_bind (wpAny_pure (wpAny_pure fin)))
theorem objNe_own {Q : Fin → Shared → Prop} (X : K.In s.heap) (I : PySem.W.InstAt s.heap x ox C od) (hu : A.units < cLine) (hs : PySem.W.findIn K (.ref C) "__eq__" = some (some (.ref f))) (hf : PySem.W.isFn K (.ref f) = true)
    (h : wpAny (model prog w) A (call (.ref f) [.ref x, b]) (fun v s' => ∃ t, v = .bool t ∧ Q (.done (.ret (.bool (!t)))) s') E s) : wpAny (model prog w) A (Builtin.«object.__ne__» ⟨[.ref x, b], []⟩) Q E s := by
  unfold Builtin.«object.__ne__»
  repeat (first
    | with_reducible refine wpAny_cRoomFor hu ?_
    | (refine wpAny_bind (m := callSpecialIfBound? (.ref x) (Str.ofString "__eq__") [b])
        (PySem.W.ifBound_K X I hs hf (wpAny_mono h (fun r s' hr => by
          obtain ⟨t, rfl, hq⟩ := hr
          repeat (first | exact hq | exact wpAny_pure hq | exact wpAny_truthy_bool hq | (refine wpAny_bind (m := truthy (.bool _)) (wpAny_truthy_bool ?_)) | wp_step)) fun _ _ e => e)))
    | wp_step)
theorem ne_K {Q : Value → Shared → Prop} (hu : A.units < cLine) (hu1 : A.in1.units < cLine) (F : Fr h₀ L s.heap m) (X₀ : K.In h₀) (I : PySem.W.InstAt s.heap x ox C od) (hb : PySem.W.Looks (model prog w) s.heap (typeOf b) (.ref C))
    (hn : PySem.W.findIn K (.ref C) "__ne__" = some (some (.builtin "object.__ne__"))) (hm : PySem.W.subIn K (.ref C) (.type "object") = some true) (hs : PySem.W.findIn K (.ref C) "__eq__" = some (some (.ref f))) (hf : PySem.W.isFn K (.ref f) = true)
    (h : wpAny (model prog w) A.in1 (call (.ref f) [.ref x, b]) (fun v s' => ∃ t, v = .bool t ∧ Q (.bool (!t)) s') E s) : wpAny (model prog w) A (richCompare .NotEq (.ref x) b) Q E s := by
  have X := X₀.keeps F.keep
  have one : wpAny (model prog w) A (tryCompare (.ref x) "__ne__" b) (fun r s' => ∃ t, r = some (.bool t) ∧ Q (.bool t) s') E s := by
    unfold tryCompare
    refine wpAny_bind (ifBound_ne X I hn (wpAny_call (codeAny_call_builtin PySem.F.cmp_object.ne.plain PySem.F.cmpEntry_ne (PySem.W.check_slot PySem.F.cmpKind_ne PySem.F.cmpSplit_ne (I.type.andThen (PySem.W.looks_subIn X hm)) (PySem.F.cmpArgs_ne _ _) (objNe_own X I hu1 hs hf (wpAny_mono h (fun v s' hv => ?_) fun _ _ e => e))))))
    obtain ⟨t, rfl, hq⟩ := hv
    exact ⟨t, rfl, wpAny_pure ⟨!t, rfl, hq⟩⟩
  unfold richCompare
  simp only [oneThing_ref]
  refine wpAny_holding (wpAny_bind (wpAny_cRoomFor hu ?_))
  refine wpAny_bind (I.type.here (wpAny_bind (hb.here ?_)))
  rw [show (Value.ref C != Value.ref C) = false from by simp]
  simp only [Bool.false_eq_true, if_false]
  refine wpAny_bind (wpAny_pure ?_)
  simp only [Bool.false_eq_true, if_false]
  refine wpAny_bind (wpAny_mono one (fun r s' z => ?_) fun _ _ e => e)
  obtain ⟨t, rfl, hq⟩ := z
  exact wpAny_pure hq
end
/-- what != must find -/
structure NeF (G : GC) (c : Str) : Prop where
  ne : ∀ C, G.mg c = some (.ref C) → PySem.W.findIn G.K (.ref C) "__ne__" = some (some (.builtin "object.__ne__"))
  sub : ∀ C, G.mg c = some (.ref C) → PySem.W.subIn G.K (.ref C) (.type "object") = some true
/-- x == y, both of the class c -/
def rEqO (G : GC) (c : Str) (n : Nat) (F : List PV → M PV) (neg : Bool) : R2 := fun x y H Q => (∃ b C dy gs, y = .ref b ∧ G.mg c = some (.ref C) ∧ H b = some (.ins C dy gs)) ∧ rOwn1 G c n F x [y] H fun v H' => ∃ b : Bool, v = .bl b ∧ Q (.bl (b != neg)) H'
section
variable {X : Cx} {W : WX}
theorem op_eqO {k n : Nat} {g : Addr} {F : List PV → M PV} {c : Str} (S : SpecF (gc X) c "__eq__" g) (hF : FnP X.prog X.w (gc X) X.base k g n F) (hr : Room k X.A) : OpR X (compareOp .Eq) (rEqO (gc X) c n F false) := by
  intro pins s σ H x y v u Q I rx ry h
  obtain ⟨⟨b, C', dy, gs, rfl, m', eb⟩, a, C, dx, fs, rfl, m, ea, q⟩ := h
  obtain rfl : C' = C := by rw [m] at m'; injection m' with m'; injection m' with m'; exact m'.symm
  obtain rfl : v = Value.ref a := rx
  obtain rfl : u = Value.ref b := ry
  obtain ⟨mA, O, _, _, _, _⟩ := ins_get I.hok ea
  obtain ⟨mB, O', _, _, _, _⟩ := ins_get I.hok eb
  obtain ⟨od, J, _⟩ := O.look
  obtain ⟨od', J', _⟩ := O'.look
  obtain ⟨m', hFr⟩ := I.fr
  show wpAny _ _ (richCompare .Eq _ _) _ _ _
  refine PySem.W.cmp_K (op := .Eq) (tb := .ref C') hr.units0 hFr I.ok.mod.kin J J'.type (by simp [PySem.W.notFirst]) (S.at_ _ m) S.fn ?_
  refine thn (run_pos (X := X.nox) (W := WF) (sg := σ) hF hr (fun u s' z => by
    obtain ⟨_, _, _, _, _, _, _, _, _, _, _, _, _, _, _, _, w⟩ := z
    exact w.elim) (I.wish _) (.cons (show RelV (V.ref a) (Value.ref a) from rfl) (.cons (show RelV (V.ref b) (Value.ref b) from rfl) .nil)) q |> fun z => wpAny_mono z (fun _ _ y => y) fun _ _ y => y.elim) fun u s' ⟨w, H', I', rw', b, hb, q'⟩ => ?_
  subst hb
  obtain rfl : u = Value.bool b := rw'
  exact ⟨.bl b, H', I'.unwish, rfl, by simpa using q'⟩
theorem op_neO {k n : Nat} {g : Addr} {F : List PV → M PV} {c : Str} (S : SpecF (gc X) c "__eq__" g) (N : NeF (gc X) c) (hF : FnP X.prog X.w (gc X) X.base k g n F) (hr : Room (k + 1) X.A) : OpR X (compareOp .NotEq) (rEqO (gc X) c n F true) := by
  intro pins s σ H x y v u Q I rx ry h
  obtain ⟨⟨b, C', dy, gs, rfl, m', eb⟩, a, C, dx, fs, rfl, m, ea, q⟩ := h
  obtain rfl : C' = C := by rw [m] at m'; injection m' with m'; injection m' with m'; exact m'.symm
  obtain rfl : v = Value.ref a := rx
  obtain rfl : u = Value.ref b := ry
  obtain ⟨mA, O, _, _, _, _⟩ := ins_get I.hok ea
  obtain ⟨mB, O', _, _, _, _⟩ := ins_get I.hok eb
  obtain ⟨od, J, _⟩ := O.look
  obtain ⟨od', J', _⟩ := O'.look
  obtain ⟨m', hFr⟩ := I.fr
  show wpAny _ _ (richCompare .NotEq _ _) _ _ _
  refine ne_K hr.units0 hr.in1.units0 hFr I.ok.mod.kin J J'.type (N.ne _ m) (N.sub _ m) (S.at_ _ m) S.fn ?_
  refine wpAny_mono (run_pos1 (sg := σ) hF hr I (.cons (show RelV (V.ref a) (Value.ref a) from rfl) (.cons (show RelV (V.ref b) (Value.ref b) from rfl) .nil)) q) (fun u s' z => ?_) fun _ _ e => e
  obtain ⟨w, H', I', rw', b, hb, q'⟩ := z
  subst hb
  obtain rfl : u = Value.bool b := rw'
  exact ⟨b, rfl, .bl (!b), H', I', rfl, by simpa using q'⟩
def eqOF (n : Nat) (c : Str) (F : List PV → M PV) (neg : Bool) : PV → PV → M PV := fun x y st => match insOf st y with
  | some (c', _, _) => if c' = c then (noX (callO n c F x [y] st)).bind fun q st => match q with
    | .bl b => .ok (.bl (b != neg)) st
    | _ => .stuck
    else .stuck
  | none => .stuck
theorem sop_eqO {G : GC} {c : Str} {n : Nat} {F : List PV → M PV} {neg : Bool} : SOp G (rEqO G c n F neg) (eqOF n c F neg) := by
  intro r H st p q x y E Q R hx hy h
  unfold eqOF at h
  split at h
  · rename_i c' ns fs hi
    split at h
    · rename_i hc
      subst hc
      obtain ⟨b, C, dy, gs, rfl, m, eb, _⟩ := insOf_ok R hy hi
      refine ⟨⟨b, C, dy, _, rfl, m, eb⟩, ?_⟩
      refine callO_ok (E := fun _ _ _ => False) R hx (RepL.cons hy RepL.nil) (Post.noX h.bind |>.imp fun q st1 r1 H1 t1 R1 h1 w hw => ?_)
      split at h1
      · rename_i b
        simp only [Rep] at hw
        subst hw
        exact ⟨b, rfl, h1 r1 H1 Step.refl R1 _ rep_bl⟩
      · exact h1.elim
    · exact h.elim
  · exact h.elim
/-! ### a constant of the class, read by an instance -/
structure OConF (G : GC) (c f : Str) (i : Int) : Prop where
  ex : ∀ C, G.mg c = some (.ref C) → Cls G.K C ∧ ∃ t, Con G.K C f (.int i) (.int i t)
theorem lookup_no {f : Str} : ∀ (ns : List Str) (gs : List V), ns.contains f = false → (ns.zip gs).lookup f = none
  | [], _, _ => rfl
  | _ :: _, [], _ => rfl
  | n :: ns, g :: gs, h => by
    rw [List.contains_cons, Bool.or_eq_false_iff] at h
    simp only [List.zip_cons_cons, List.lookup_cons, h.1]
    exact lookup_no ns gs h.2
def conOD (c f : Str) (i : Int) (d : DE) : DE := fun env st => (d env st).bind fun p st => match insOf st p with
  | some (c', ns, _) => if c' = c ∧ ns.contains f = false then .ok (.int i) st else .stuck
  | none => .stuck
theorem se_conO {c f : Str} {i : Int} {e : Expr} {te : TE} {d : DE} {pos : Pos} (F : OConF (gc X) c f i) (he : SE X W e te d) (hb : attributeBase e f X.env (eval e X.env) = eval e X.env := by rfl) : SE X W (.Attribute e f pos) (tCon X.K te f) (conOD c f i d) := by
  refine ⟨pe_con he.pe hb, fun r s H env st Q E R h => ?_⟩
  refine he.so r s H env st _ E R (h.bind.imp fun p st1 r1 H1 t1 R1 h1 x hx => ?_)
  split at h1
  · rename_i c' ns fs hi
    split at h1
    · rename_i hc
      obtain ⟨hc, hf⟩ := hc
      subst hc
      obtain ⟨a, C, dx, gs, rfl, m, ea, _⟩ := insOf_ok R1 hx hi
      obtain ⟨k, t, k2⟩ := F.ex C m
      exact ⟨a, C, dx, _, .int i, .int i t, rfl, ea, k, k2, lookup_no ns gs hf, h1 r1 H1 Step.refl R1 _ rep_int⟩
    · exact h1.elim
  · exact h1.elim
end
end CD

set_option Elab.async false
set_option linter.all false
set_option maxRecDepth 100000
set_option maxHeartbeats 2000000
namespace CD
open PySem PySem.Spec PyProof.Rows L2 RZ StX ClX
section
variable {X : Cx} {W : WX}
/-! ### C.m(k = v, ..), m a classmethod -/
def tCMK (C : Addr) (n m : Nat) (l : List (Nat × Nat)) (F : List PV → M PV) (G : GC) (E : St → XK) (t : TA) : TE := fun σ H Q => t σ H fun zs H1 => zs.length = m ∧ SpF G n F (.ref C :: pick [] zs [] l) H1 Q (E σ)
def callCMK (c : Str) (m k : Nat) (l : List (Nat × Nat)) (F : List PV → M PV) (dk : PEnv → M (List PV)) : DE := fun env st => (dk env st).bind fun qs st => if qs.length = m ∧ (pick [] qs [] l).length + 1 = k then F (.gl c :: pick [] qs [] l) st else .stuck
theorem se_cmethK {k : Nat} {C g : Addr} {fd : FuncData} {pa ks : List Str} {F : List PV → M PV} {c m : Str} {l : List (Nat × Nat)} {p0 apos pos : Pos} {kws : List Keyword} {tk : TA} {dk : PEnv → M (List PV)} {pl : Sem Bool} (cf : CMetF (gc X) c m g) (hm : X.mg c = some (.ref C)) (hF : FnD X.prog X.w (gc X) X.base k g fd pa F) (hr : Room k X.A)
    (hb : KwB X.K fd pa 1 ks [] ((0, 0) :: l)) (tq : L2N.Takes X W) (hk : SKw X W kws tk dk) (hl : ∀ (a : V) (zs : List V), pick [a] zs [] ((0, 0) :: l) = a :: pick [] zs [] l := by intros; rfl) (hg : Gl X c := by rfl) (hdb : (c == ("__debug__" : Str)) = false := by decide)
    (hall : (backToKw pos (keywordEach kws X.env)).all (·.1.isSome) = true := by rfl) (hks : (backToKw pos (keywordEach kws X.env)).filterMap (·.1) = ks := by rfl)
    (hpl : ((backTo pos (starEach [] X.env)).any (·.1) || (backToKw pos (keywordEach kws X.env)).any (·.1.isNone)) = false := by rfl)
    (ht : eval (.Call (.Attribute (.Name c p0) m apos) [] kws pos) X.env = (do
      let ov ← eval (.Name c p0) X.env
      standAt apos.atName
      let (f, first) ← holding [ov] (getMethod ov m pl)
      callWith pos f first (backTo pos (starEach [] X.env)) (backToKw pos (keywordEach kws X.env))) := by rfl) :
    SE X W (.Call (.Attribute (.Name c p0) m apos) [] kws pos) (tCMK C pa.length ks.length l F (gc X) (fun s => WE W s) tk) (callCMK c ks.length pa.length l F dk) := by
  obtain ⟨mc, p, cr, cm⟩ := cf.cm C hm
  refine ⟨⟨fun pins s σ H Q I h => ?_⟩, fun r s H env st Q E R h => ?_⟩
  · refine PySem.W.methodCall_KW (pl := pl) (thn ((show PE X (.Name c p0) (tC (.ref C)) from pe_glob hg hm rfl hdb).run pins s σ H (fun v H1 => v = .ref C ∧ H1 = H) I ⟨rfl, rfl⟩) fun u s1 ⟨v, H1, I1, r1, q1⟩ => ?_) ht
    obtain ⟨rfl, rfl⟩ := q1
    obtain rfl : u = Value.ref C := r1
    refine getmethcm_ok I1 cr cm fun s2 I2 => ?_
    refine PySem.W.callWith_of hpl (PySem.W.keeps_M cm.fi) (PyProof.Rows.evalArgs_kw2_nil hall (thn (hk.pk.run pos _ s2 σ H1 _ I2 h) fun ws s3 ⟨zs, H2, I3, rz, l2, q2⟩ => ⟨⟨pin_at I3, I3.kIn⟩, ?_⟩))
    rw [hks]
    rw [← hl] at q2
    have z : wpAny (model X.prog X.w) X.A (call (.ref _) ([] ++ []) (ks.zip ws)) (EP X _ σ Q) X.xe s3 :=
      wpAny_call (PySem.W.method_call (pin_at I3) (codeAny_mono (runK (us := [.ref C]) (vs := [.ref C]) hF hb .nil hr I3.env0 (.cons rfl .nil) rz rfl l2 q2) fun rr s' hq => by
        cases rr with
        | error e => exact L2N.passAt tq σ _ H2 s3 e s' I3 hq
        | ok fl => cases fl with
          | ret u => exact I3.after hq
          | next => exact hq.elim
          | brk => exact hq.elim
          | cont => exact hq.elim))
    exact thn z fun _ _ y => unpinE y
  · refine hk.so r s H env st _ E R (h.bind.imp fun qs st1 r1 H1 t1 R1 h1 zs hz => ?_)
    split at h1
    · rename_i hc
      have lv : RepL (gc X) r1 H1 (.gl c :: pick [] qs [] l) (.ref C :: pick [] zs [] l) := RepL.cons (by simp only [Rep]; exact ⟨C, rfl, hm⟩) (pick_rep RepL.nil hz RepL.nil l)
      exact ⟨by rw [← hz.len]; exact hc.1, by rw [← lv.len]; simpa using hc.2, r1, _, st1, lv, R1, h1⟩
    · exact h1.elim
end
end CD

set_option Elab.async false
set_option linter.all false
set_option maxRecDepth 100000
set_option maxHeartbeats 2000000
namespace CD
open PySem L2
/-! ### more steps -/
section
variable {α β : Type} {env : PEnv} {st s1 s2 : Store} {d : DS} {de : DE}
theorem ev2 {f : PV → PV → M PV} {a b : DE} {p q : PV} {r : Res PV} (ha : a env st = .ok p s1) (hb : b env s1 = .ok q s2) (h : f p q s2 = r) : d2 f a b env st = r := by rw [ev_2, ha, Res.bind_ok, hb]; exact h
theorem evB {d : DE} {b : Bool} (h : d env st = .ok (.bl b) s1) : dB d env st = .ok b s1 := dB_ok h
theorem evNot {d : DE} {b : Bool} (h : d env st = .ok (.bl b) s1) : notD d env st = .ok (.bl (!b)) s1 := by unfold notD; rw [h]; rfl
theorem evTup {ds : PEnv → M (List PV)} {ps : List PV} (h : ds env st = .ok ps s1) (hl : ps.length ≤ 100000) : tupD ds env st = .ok (.tup ps) s1 := by
  unfold tupD; rw [h, Res.bind_ok]; exact sz_if hl
theorem evIf {c : PEnv → M Bool} {a b : DE} {r : Res PV} (t : Bool) (h : c env st = .ok t s1) (h1 : t = true → a env s1 = r) (h2 : t = false → b env s1 = r) : ifD c a b env st = r := by
  rw [ev_ifD, h, Res.bind_ok]; cases t with
  | true => exact h1 rfl
  | false => exact h2 rfl
theorem evIfT {c : PEnv → M Bool} {a b : DE} {r : Res PV} (h : c env st = .ok true s1) (h1 : a env s1 = r) : ifD c a b env st = r := evIf true h (fun _ => h1) (fun h => by cases h)
theorem evIfF {c : PEnv → M Bool} {a b : DE} {r : Res PV} (h : c env st = .ok false s1) (h1 : b env s1 = r) : ifD c a b env st = r := evIf false h (fun h => by cases h) (fun _ => h1)
theorem evIsN {p : PV} {b : Bool} (h : isNP p = some b) : isD false p .non st = .ok (.bl b) st := by unfold isD; rw [h]; rfl
theorem evIsNN {p : PV} {b : Bool} (h : isNP p = some b) : isD true p .non st = .ok (.bl (!b)) st := by unfold isD; rw [h]; rfl
theorem evAnd {a b : DE} {x : Bool} {y : Bool} (h : a env st = .ok (.bl x) s1) (h1 : x = true → b env s1 = .ok (.bl y) s1) : andD a b env st = .ok (.bl (x && y)) s1 := by
  cases x with
  | true => rw [and_t h]; simpa using h1 rfl
  | false => rw [and_f h]; rfl
theorem evOr {a b : DE} {x : Bool} {y : Bool} (h : a env st = .ok (.bl x) s1) (h1 : x = false → b env s1 = .ok (.bl y) s1) : orD a b env st = .ok (.bl (x || y)) s1 := by
  unfold orD
  cases x with
  | true => rw [h]; rfl
  | false => rw [h]; show b env s1 = _; simpa using h1 rfl
theorem evAndB {a b : PEnv → M Bool} {x : Bool} {y : Bool} (h : a env st = .ok x s1) (h1 : x = true → b env s1 = .ok y s1) : andB a b env st = .ok (x && y) s1 := by
  cases x with
  | true => rw [andB_t h]; simpa using h1 rfl
  | false => rw [andB_f h]; rfl
theorem evOrB {a b : PEnv → M Bool} {x : Bool} {y : Bool} (h : a env st = .ok x s1) (h1 : x = false → b env s1 = .ok y s1) : orB a b env st = .ok (x || y) s1 := by
  cases x with
  | true => rw [orB_t h]; rfl
  | false => rw [orB_f h]; simpa using h1 rfl
theorem evCh {f g : PV → PV → M PV} {a b c : DE} {p q r : PV} {x y : Bool} (ha : a env st = .ok p s1) (hb : b env s1 = .ok q s2) (hf : f p q s2 = .ok (.bl x) s2) (hc : c env s2 = .ok r s2) (hg : g q r s2 = .ok (.bl y) s2) : chD f g a b c env st = .ok (.bl (x && y)) s2 := by
  unfold chD; rw [ha, Res.bind_ok, hb, Res.bind_ok, hf]
  cases x with
  | true => simp only [Res.bind]; rw [hc]; simpa [Res.bind] using hg
  | false => rfl
theorem evEq1 {a : Int} : eqD false (.int a) (.int a) st = .ok (.bl true) st := by rw [ev_eq, decide_eq_true rfl]
/-! by steps -/
theorem wp_ifO {c : PEnv → M Bool} {a b : DS} {P : Flow → Store → Prop} (h : Ok (c env st) fun t s => (t = true → Ok (seqD a d env s) P) ∧ (t = false → Ok (seqD b d env s) P)) : Ok (seqD (ifS c a b) d env st) P := by
  obtain ⟨t, s, e, h1, h2⟩ := h; exact wp_if e h1 h2
theorem ok_orB {a b : PEnv → M Bool} {P : Bool → Store → Prop} (h : Ok (a env st) fun t s => (t = true → P true s) ∧ (t = false → Ok (b env s) P)) : Ok (orB a b env st) P := by
  obtain ⟨t, s, e, h1, h2⟩ := h
  cases t with
  | true => rw [orB_t e]; exact ⟨_, _, rfl, h1 rfl⟩
  | false => rw [orB_f e]; exact h2 rfl
theorem ok_andB {a b : PEnv → M Bool} {P : Bool → Store → Prop} (h : Ok (a env st) fun t s => (t = false → P false s) ∧ (t = true → Ok (b env s) P)) : Ok (andB a b env st) P := by
  obtain ⟨t, s, e, h1, h2⟩ := h
  cases t with
  | false => rw [andB_f e]; exact ⟨_, _, rfl, h1 rfl⟩
  | true => rw [andB_t e]; exact h2 rfl
theorem ok_notB {a : PEnv → M Bool} {P : Bool → Store → Prop} (h : Ok (a env st) fun t s => P (!t) s) : Ok (notB a env st) P := by
  obtain ⟨t, s, e, h1⟩ := h; rw [notB_ok e]; exact ⟨_, _, rfl, h1⟩
theorem ok_dB {P : Bool → Store → Prop} (h : Ok (de env st) fun p s => ∃ b, p = .bl b ∧ P b s) : Ok (dB de env st) P := by
  obtain ⟨p, s, e, b, rfl, h1⟩ := h; rw [dB_ok e]; exact ⟨_, _, rfl, h1⟩
theorem ok_ifD {c : PEnv → M Bool} {a b : DE} {P : PV → Store → Prop} (h : Ok (c env st) fun t s => (t = true → Ok (a env s) P) ∧ (t = false → Ok (b env s) P)) : Ok (ifD c a b env st) P := by
  obtain ⟨t, s, e, h1, h2⟩ := h
  rw [ev_ifD, e, Res.bind_ok]
  cases t with
  | true => exact h1 rfl
  | false => exact h2 rfl
theorem ok_notD {a : DE} {P : PV → Store → Prop} (h : Ok (a env st) fun p s => ∃ b, p = .bl b ∧ P (.bl !b) s) : Ok (notD a env st) P := by
  obtain ⟨p, s, e, b, rfl, h1⟩ := h; rw [evNot e]; exact ⟨_, _, rfl, h1⟩
theorem ok_meth {ok : Store → PV → Bool} {f : PV → List PV → M PV} {dd : DE} {ds : PEnv → M (List PV)} {p : PV} {P : PV → Store → Prop} (hd : dd env st = .ok p s1) (hk : ok s1 p = true) (h : Ok (ds env s1) fun qs s => Ok (f p qs s) P) : Ok (methD ok f dd ds env st) P := by
  obtain ⟨qs, s, e, h⟩ := h
  exact Ok.eq (meth_ok hd hk e rfl) h
theorem wp_asgO {g : PV → PEnv → M PEnv} {P : Flow → Store → Prop} (h : Ok (de env st) fun p s => Ok (g p env s) fun e1 s' => Ok (d e1 s') P) : Ok (seqD (asgD de g) d env st) P := by
  obtain ⟨p, s, e, e1, s', g1, k⟩ := h
  exact wp_asg e g1 k
theorem wp_forO {it : PEnv → M (List PV)} {g : PV → PEnv → M PEnv} {b : DS} {P : Flow → Store → Prop} (h : Ok (it env st) fun xs s => ∃ I : Nat → PEnv → Store → Prop, I 0 env s ∧
    (∀ (i : Nat) (x : PV) (e : PEnv) (s : Store), xs[i]? = some x → I i e s → Ok (g x e s) fun e1 s1 => Ok (b e1 s1) fun f s2 => ∃ e2, f = .nx e2 ∧ I (i + 1) e2 s2) ∧
    (∀ e s, I xs.length e s → Ok (d e s) P)) : Ok (seqD (forD it g b) d env st) P := by
  obtain ⟨xs, s, e, I, h0, hs, hk⟩ := h
  exact wp_for I e h0 hs hk
theorem ok_rng1 {ds : PEnv → M (List PV)} {P : List PV → Store → Prop} (h : Ok (ds env st) fun ps s => ∃ j : Int, ps = [.int j] ∧ 0 ≤ j ∧ j ≤ 1000000 ∧ P (intL 0 j.toNat) s) : Ok (rng1 ds env st) P := by
  obtain ⟨ps, s, e, j, rfl, h0, h1, k⟩ := h
  exact ⟨_, _, rng1_ok e h0 h1, k⟩
end
theorem wp_frz {d : DS} {env : PEnv} {st : Store} {i l : Nat} {xs : List PV} {P : Flow → Store → Prop} (he : env[i]? = some (some (.loc l))) (hs : st[l]? = some (.lst xs)) (k : Ok (d (env.set i (some (.lst xs))) (st.set l .dead)) P) : Ok (frzD i d env st) P := by
  unfold frzD
  rw [he]; simp only; rw [hs]
  exact k
theorem ix_tup {env : PEnv} {st : Store} {d : DE} {xs : List PV} {k : Nat} {v : PV} (h : d env st = .ok (.tup xs) st) (hv : xs[k]? = some v) : d2 ixD d (dC (.int k)) env st = .ok v st := by
  rw [ev_2, h, Res.bind_ok, ev_C, Res.bind_ok]
  exact ix_seq (xs := xs) rfl (atI_nat' hv)
theorem bindE {α β : Type} {m : Res α} {f : α → Store → Res β} {a : α} {s : Store} {r : Res β} (h : m = .ok a s) (k : f a s = r) : m.bind f = r := by rw [h]; exact k
theorem sl_tup {env : PEnv} {st : Store} {d : DE} {lo hi : PEnv → M (Option Int)} {xs : List PV} {i j : Option Int} (h : d env st = .ok (.tup xs) st) (h1 : lo env st = .ok i st) (h2 : hi env st = .ok j st) : slD okL d lo hi env st = .ok (.tup (cutP xs i j)) st := by
  unfold slD
  rw [h, Res.bind_ok, h1, Res.bind_ok, h2, Res.bind_ok]; rfl
theorem part_ok {env : PEnv} {st : Store} {d : DE} {i : Int} (h : d env st = .ok (.int i) st) : partOf d env st = .ok (some i) st := by
  unfold partOf; rw [h]; rfl
theorem cut_to {α : Type} {xs : List α} {k : Nat} (h : k ≤ xs.length) : cutP xs none (some (k : Int)) = xs.take k := by
  unfold cutP
  rw [HT.sIx_none, HT.sIx_nat]
  simp [Nat.min_eq_left h]
theorem cut_from {α : Type} {xs : List α} {k : Nat} (h : k ≤ xs.length) : cutP xs (some (k : Int)) none = xs.drop k := by
  unfold cutP
  rw [HT.sIx_none, HT.sIx_nat, Nat.min_eq_left h]
  exact List.take_of_length_le (by simp)
theorem ev_addt {env : PEnv} {st : Store} {d e : DE} {a b : List PV} (h : d env st = .ok (.tup a) st) (h' : e env st = .ok (.tup b) st) (hl : a.length + b.length ≤ 100000) : d2 addD d e env st = .ok (.tup (a ++ b)) st := by
  rw [ev_2, h, Res.bind_ok, h', Res.bind_ok]
  show iteM (a.length + b.length ≤ sizeLine) _ st = _
  exact sz_if hl
theorem tup_ok' {env : PEnv} {st : Store} {ds : PEnv → M (List PV)} {ps : List PV} (h : ds env st = .ok ps st) (hl : ps.length ≤ 100000) : tupD ds env st = .ok (.tup ps) st := by
  unfold tupD; rw [h, Res.bind_ok]; exact sz_if hl
theorem rep_ints (k : Nat) (a : Int) : (List.replicate k [PV.int a]).flatten = (List.replicate k a).map .int := by
  induction k with
  | zero => rfl
  | succ k ih => rw [List.replicate_succ, List.flatten_cons, ih]; simp [List.replicate_succ]
section
variable {α β : Type} {env : PEnv} {st s1 s2 : Store} {d : DS} {de : DE}
/-- a pure comprehension: the values by position -/
theorem evLc {it : PEnv → M (List PV)} {vs : List Nat} {tg : PV → PEnv → M PEnv} {e : DE} {γ : Type} {l : List γ} {enc : γ → PV} (g : γ → PV) (e1 : γ → PEnv) (hi : it env st = .ok (l.map enc) s1) (hl : l.length ≤ 100000)
    (ht : ∀ x ∈ l, tg (enc x) (wipeE env vs) s1 = .ok (e1 x) s1) (he : ∀ x ∈ l, e (e1 x) s1 = .ok (g x) s1) : lcD okL it vs tg yesB e env st = .ok (.lst (l.map g)) s1 := by
  unfold lcD
  rw [hi, Res.bind_ok]
  have := lc_map (k := okL) (it := fun _ s => .ok (l.map enc) s) (vs := vs) (env := env) (st := s1) e1 g rfl hl ht he
  unfold lcD at this
  rw [Res.bind_ok] at this
  exact this.trans rfl
/-! pure: the store stays -/
theorem p2 {f : PV → PV → M PV} {a b : DE} {p q : PV} {r : Res PV} (ha : a env st = .ok p st) (hb : b env st = .ok q st) (h : f p q st = r) : d2 f a b env st = r := ev2 ha hb h
theorem pa1 {d : DE} {ds : PEnv → M (List PV)} {p : PV} {ps : List PV} (h : d env st = .ok p st) (h2 : ds env st = .ok ps st) : dCons d ds env st = .ok (p :: ps) st := args1 h h2
theorem pD {f : List PV → M PV} {ds : PEnv → M (List PV)} {ps : List PV} {r : Res PV} (h : ds env st = .ok ps st) (hf : f ps st = r) : callD f ds env st = r := callD_ok h hf
theorem pD1 {f : List PV → M PV} {d : DE} {p : PV} {r : Res PV} (h : d env st = .ok p st) (hf : f [p] st = r) : callD f (dCons d dNil) env st = r := callD_ok (args1 h args0) hf
theorem pF {n : Nat} {F : List PV → M PV} {ds : PEnv → M (List PV)} {ps : List PV} {r : Res PV} (h : ds env st = .ok ps st) (hF : F ps st = r) (hl : ps.length = n := by rfl) : callF n F ds [] env st = r := callF_ok h hl hF
theorem pF1 {F : List PV → M PV} {d : DE} {p : PV} {r : Res PV} (h : d env st = .ok p st) (hF : F [p] st = r) : callF 1 F (dCons d dNil) [] env st = r := callF_ok (args1 h args0) rfl hF
theorem pF2 {F : List PV → M PV} {d e : DE} {p q : PV} {r : Res PV} (h : d env st = .ok p st) (h2 : e env st = .ok q st) (hF : F [p, q] st = r) : callF 2 F (dCons d (dCons e dNil)) [] env st = r := callF_ok (args1 h (args1 h2 args0)) rfl hF
theorem pF3 {F : List PV → M PV} {d e f : DE} {p q o : PV} {r : Res PV} (h : d env st = .ok p st) (h2 : e env st = .ok q st) (h3 : f env st = .ok o st) (hF : F [p, q, o] st = r) : callF 3 F (dCons d (dCons e (dCons f dNil))) [] env st = r := callF_ok (args1 h (args1 h2 (args1 h3 args0))) rfl hF
theorem pLc {it : PEnv → M (List PV)} {vs : List Nat} {tg : PV → PEnv → M PEnv} {e : DE} {γ : Type} {l : List γ} {enc : γ → PV} (g : γ → PV) (e1 : γ → PEnv) (hi : it env st = .ok (l.map enc) st) (hl : l.length ≤ 100000)
    (ht : ∀ x ∈ l, tg (enc x) (wipeE env vs) st = .ok (e1 x) st) (he : ∀ x ∈ l, e (e1 x) st = .ok (g x) st) : lcD okL it vs tg yesB e env st = .ok (.lst (l.map g)) st := evLc g e1 hi hl ht he
theorem pLcF {it : PEnv → M (List PV)} {vs : List Nat} {tg : PV → PEnv → M PEnv} {t : PEnv → M Bool} {e : DE} {γ : Type} {l : List γ} {enc : γ → PV} (f : γ → Bool) (g : γ → PV) (e1 : γ → PEnv) (hi : it env st = .ok (l.map enc) st) (hl : l.length ≤ 100000)
    (ht : ∀ x ∈ l, tg (enc x) (wipeE env vs) st = .ok (e1 x) st) (hf : ∀ x ∈ l, t (e1 x) st = .ok (f x) st) (he : ∀ x ∈ l, f x = true → e (e1 x) st = .ok (g x) st) : lcD okL it vs tg t e env st = .ok (.lst ((l.filter f).map g)) st :=
  (lc_gen (k := okL) e1 f g hi hl ht hf he).trans rfl
theorem pTup {ds : PEnv → M (List PV)} {ps : List PV} (h : ds env st = .ok ps st) (hl : ps.length ≤ 100000 := by simp) : tupD ds env st = .ok (.tup ps) st := evTup h hl
theorem pLst {ds : PEnv → M (List PV)} {ps : List PV} (h : ds env st = .ok ps st) (hl : ps.length ≤ 100000 := by simp) : lstD ds env st = .ok (.lst ps) st := lst_ok' h hl
theorem pV {i : Nat} {p : PV} (h : env[i]? = some (some p)) : dV i env st = .ok p st := var_ok h
theorem wp_setp {i : Nat} {p : PV} {P : Flow → Store → Prop} (e : de env st = .ok p st) (k : Ok (d (env.set i (some p)) st) P) : Ok (seqD (setD i de) d env st) P := wp_setv e k
theorem wp_exprp {p : PV} {P : Flow → Store → Prop} (e : de env st = .ok p st) (k : Ok (d env st) P) : Ok (seqD (exprD de) d env st) P := wp_expr e k
theorem wp_retp {p : PV} {P : Flow → Store → Prop} (e : de env st = .ok p st) (k : P (.rt p) st) : Ok (seqD (retD de) d env st) P := wp_ret e k
theorem pairs_map {γ : Type} (f g : γ → PV) : ∀ l : List γ, pairs (l.map f) (l.map g) = l.map fun x => .tup [f x, g x]
  | [] => rfl
  | x :: l => by have := pairs_map f g l; unfold pairs at this ⊢; simp only [List.map_cons, List.zipWith_cons_cons, this]
end
end CD

set_option Elab.async false
set_option linter.all false
set_option maxRecDepth 100000
set_option maxHeartbeats 2000000
namespace CD
open PySem PySem.Spec PyProof.Rows L2 RZ StX ClX
variable {X : Cx} {W : WX}
/-! ### enumerate of a list or a tuple -/
theorem meets_enum1 {v : Value} {o : Obj} {H : Heap → Prop} (B : Begins v o H) :
    Meets (Builtin.«enumerate.__new__» ⟨[.type "enumerate", v], []⟩) (fun _ R s => H s.heap ∧
      R (.ok (.ret (.ref (s.heap.push o).objs.size))) { s with heap := (s.heap.push o).push { cls := .type "enumerate", data := .fields #[.none, .bool false, .ref s.heap.objs.size, rawInt 0, .none, .none] } }) :=
  .of_wp fun prog w A R s h => by
    obtain ⟨hp, g, d, tk, os⟩ := s; obtain ⟨h1, h⟩ := h
    have hsub := sub_enumerate
    have q1 : ∀ {A' : Around} {E : Value → Shared → Prop} {Q : Value → Shared → Prop}, Q (.ref hp.objs.size) ⟨hp.push o, g, d, tk, os⟩ → wpAny (model prog w) A' (pyIter v) Q E ⟨hp, g, d, tk, os⟩ :=
      fun q => B.iter prog w _ _ ⟨hp, g, d, tk, os⟩ _ h1 q
    wp_walk using q1
    refine wpAny_stack_any fun st => wpAny_pure ?_
    split
    · rename_i c _ _ _ _ _
      cases (c == Value.type "enumerate")
      · wp_walk using q1
        exact ⟨_, rfl, h⟩
      · wp_walk using q1
        exact ⟨_, rfl, h⟩
    · wp_walk using q1
      exact ⟨_, rfl, h⟩
theorem enum_begins1 {prog : Program} {w : World} {A : Around} {E : Value → Shared → Prop} {s : Shared} {v : Value} {o : Obj} {H : Heap → Prop} {Q : Value → Shared → Prop} (B : Begins v o H) (h1 : H s.heap)
    (h : ∀ h', IsEnum h' (s.heap.objs.size + 1) s.heap.objs.size 0 .none → h'.get? s.heap.objs.size = some o → h'.objs.size = s.heap.objs.size + 2 →
      (∀ b o, s.heap.get? b = some o → h'.get? b = some o) → Q (.ref (s.heap.objs.size + 1)) { s with heap := h' }) :
    wpAny (model prog w) A (PySem.call (.type "enumerate") [v]) Q E s := by
  refine callType_new F.called_enumerate (by decide) (F.typeCall_enumerate_1 _) (F.newCall_enumerate_1 _) (fun obj => F.args_object_init_2 obj _) F.entry_enumerate_new
    (meets_enum1 B) ⟨h1, ?_⟩
  have hz : (s.heap.push o).objs.size = s.heap.objs.size + 1 := Heap.size_push ..
  show _ ∧ _
  rw [hz]
  have he : IsEnum ((s.heap.push o).push { cls := .type "enumerate", data := .fields #[.none, .bool false, .ref s.heap.objs.size, rawInt 0, .none, .none] }) (s.heap.objs.size + 1) s.heap.objs.size 0 .none := by
    have := Heap.get?_push_size (s.heap.push o) (o := { cls := .type "enumerate", data := .fields #[.none, .bool false, .ref s.heap.objs.size, rawInt 0, .none, .none] }) rfl
    rw [hz] at this; exact this
  refine ⟨⟨_, he, rfl⟩, h _ he (Heap.get?_push_of_some _ (Heap.get?_push_size _ B.free)) (by rw [Heap.size_push, hz]) fun b o x => Heap.get?_push_of_some _ (Heap.get?_push_of_some _ x)⟩
def Ite2 (K : PySem.W.Frag) (k : SK) (a : Addr) : It :=
  ⟨fun i H => ∃ (xs : List V) (x : V), SqK K H k a xs ∧ xs[i]? = some x,
    fun i H v H' => ∃ T x y, v = .ref T ∧ H T = none ∧ H' = upd H T (.tup [x, y]) ∧ x = .int (i : Nat) ∧ ∀ xs, SqK K H k a xs → xs[i]? = some y,
    fun i H => ∃ xs : List V, SqK K H k a xs ∧ i = xs.length⟩
theorem turn_e2 {P : Program} {w : World} {K : PySem.W.Frag} {elts : List Expr} {kk : Nat} {tpos : Pos} {k : SK} {a e it : Addr} (n1 : e ≠ it) (n2 : a ≠ it) (n3 : a ≠ e) :
    Turn P w K (.Tuple elts kk tpos) (Ite2 K k a) [e, it] e (fun i h => (∃ old, IsEnum h e it ((i : Nat) : Int) old) ∧ ItrK h k it a i) where
  mem := by simp
  obj := fun i h st c hc => by
    obtain ⟨⟨old, he⟩, h1⟩ := st
    have e' : c = e ∨ c = it := by simpa using hc
    rcases e' with q | q
    · rw [q]; exact ⟨_, he, fun v q => nomatch q⟩
    · rw [q]; exact h1.there
  keep := fun i h h' st k => by
    obtain ⟨⟨old, he⟩, h1⟩ := st
    exact ⟨⟨old, k e (by simp) _ he⟩, h1.keep fun o q => k it (by simp) o q⟩
  item := by
    intro X hP hw hK hc i pins s σ H E I hf st hg
    subst hP hw hK
    obtain ⟨⟨old, he⟩, h1⟩ := st
    obtain ⟨xs, x, hqx, hx⟩ := hg
    obtain ⟨its, rv, p, _⟩ := inv_K I hqx
    obtain ⟨u, hu, ru⟩ := rv.get hx
    have D1 := draws_K (prog := X.prog) (w := X.w) (A := X.A.in1) (I.ok.hd hc) k it a n2 its.toArray
    have hlt : i < its.toArray.size := by
      have l1 := lt_of_get hu
      rw [List.size_toArray]; omega
    refine (GoesN.enumFrom (elts := elts) (x1 := kk) (pos := tpos) 0 D1 e n1 (by simp; exact ⟨n1, n3.symm⟩) (by simp)).goes i s _ E hlt ⟨⟨old, by rw [Int.zero_add]; exact he⟩, h1, p⟩ fun v h' tk hY hSt hk htk => ?_
    obtain ⟨T, t, v1, rfl, hT, e1, hTT⟩ := hY
    rw [Int.zero_add] at hTT
    obtain ⟨⟨old', he'⟩, h1', _⟩ := hSt
    rw [Int.zero_add] at he'
    have e1' : v1 = u := by
      have := e1.symm.trans (by simpa using hu); simpa using this
    subst e1'
    obtain ⟨oT, gT, cT, nT, dT⟩ := hTT
    have new : ObjOk X.prog X.w (upd H T (.tup [.int (i : Nat), x])) h' T (.tup [.int (i : Nat), x]) :=
      ⟨by show 2 ≤ sizeLine; decide, [.int i t, v1], .cons ⟨_, rfl⟩ (.cons ru .nil), ⟨oT, gT, cT, nT, dT⟩⟩
    have I1 : Inv X pins σ (upd H T (.tup [.int (i : Nat), x])) { s with heap := h', toks := tk } :=
      I.turnedNew (ch := [e, it]) (fun c o hb q => hk c o hb q) hf hT new
    refine ⟨.ref T, _, I1, rfl, ⟨T, _, x, rfl, I.hok.fresh hT, rfl, rfl, fun l hl => by rw [inj_K I hl hqx]; exact hx⟩, ⟨⟨old', he'⟩, h1'⟩, fun c hcm => ?_⟩
    have hlt : c < s.heap.objs.size := by
      have e' : c = e ∨ c = it := by simpa using hcm
      rcases e' with q | q
      · rw [q]; exact Heap.lt_size he
      · rw [q]; obtain ⟨_, e1, _⟩ := h1.there; exact Heap.lt_size e1
    rw [upd_ne (Nat.ne_of_lt (Nat.lt_of_lt_of_le hlt hT))]
    exact (hf c hcm).1
  done := by
    intro X hP hw hK hc i pins s σ H E I hf st hg
    subst hP hw hK
    obtain ⟨⟨old, he⟩, h1⟩ := st
    obtain ⟨xs, hqx, rfl⟩ := hg
    obtain ⟨its, rv, p, _⟩ := inv_K I hqx
    have D1 := draws_K (prog := X.prog) (w := X.w) (A := X.A.in1) (I.ok.hd hc) k it a n2 its.toArray
    have e0 : xs.length = its.toArray.size := by rw [List.size_toArray, rv.length]
    rw [e0] at h1 he
    exact (GoesN.enumFrom (elts := elts) (x1 := kk) (pos := tpos) 0 D1 e n1 (by simp; exact ⟨n1, n3.symm⟩) (by simp)).stops s _ E ⟨⟨old, by rw [Int.zero_add]; exact he⟩, h1, p⟩ fun h' tk hk htk =>
      I.turnedL (ch := [e, it]) (fun c o hb q => hk c o hb q) hf
  self := fun A i s Q E st h => let ⟨⟨_, he⟩, _⟩ := st; wpAny_pyIter_enum he h
def iEnum2 (K : PySem.W.Frag) (ta : TA) : TI := fun σ H R => ta σ H fun vs H1 => ∃ k a xs, vs = [.ref a] ∧ SqK K H1 k a xs ∧ R (Ite2 K k a) H1
theorem pi_enum2 {e : Expr} {ta : TA} {p pos tpos : Pos} {elts : List Expr} {kk : Nat} (hg : Gl X "enumerate") (hm : X.mg "enumerate" = none) (ha : PA X [e] ta) (hs : starEach [e] X.env = [(false, eval e X.env)] := by rfl) :
    PI X (.Tuple elts kk tpos) (.Call (.Name "enumerate" p) [e] [] pos) (iEnum2 X.K ta) := by
  refine ⟨fun pins s σ H R I h => ?_⟩
  refine Call_ (ld_blt I hg hm boot_enumerate (PyProof.Rows.callWith_type1 (thn (ha.run pos pins s σ H _ I h) fun us s1 ⟨vs, H1, I1, r1, q1⟩ => ?_) hs rfl))
  obtain ⟨k, a, xs, ex, hq, q⟩ := q1
  subst ex
  cases r1 with
  | cons r rr =>
    cases rr
    cases r
    obtain ⟨its, rv, p1, la⟩ := inv_K I1 hq
    refine enum_begins1 (begins_K k a its.toArray) p1 fun h' he g1 hsz hk => wpAny_pyIter_enum he ?_
    have I2 : Inv X pins σ H1 { s1 with heap := h' } := I1.kept (t' := s1.toks) hk
    refine ⟨s1.heap.objs.size + 1, [s1.heap.objs.size + 1, s1.heap.objs.size], _, _, H1, rfl, I2, turn_e2 (k := k) (Nat.succ_ne_self _) (Nat.ne_of_lt la) (Nat.ne_of_lt (Nat.lt_of_lt_of_le la (Nat.le_succ _))), ⟨⟨.none, he⟩, itrK_new g1⟩, fun b hb => ?_, q⟩
    have e' : b = s1.heap.objs.size + 1 ∨ b = s1.heap.objs.size := by simpa using hb
    have hle : s1.heap.objs.size ≤ b := by
      rcases e' with z | z
      · rw [z]; exact Nat.le_add_right _ _
      · rw [z]; exact Nat.le_refl _
    exact I1.fpOk hle (I1.hok.fresh hle)
theorem walk_e2 {K : PySem.W.Frag} {k : SK} {a : Addr} {xs : List V} : Walk (Ite2 K k a) xs.length (fun H => SqK K H k a xs) (YPair (fun i => some (.int (i : Nat))) (fun i => xs[i]?)) := by
  refine ⟨fun i _ hi q => ⟨xs, xs[i], q, by simp [hi]⟩, fun _ q => ⟨xs, q, rfl⟩, fun i H v H' _ q y => ?_⟩
  obtain ⟨T, x, z, h1, h2, h3, h4, h5⟩ := y
  exact ⟨T, x, z, h1, h2, h3, by rw [h4], h5 xs q⟩
def enumD2 (ds : PEnv → M (List PV)) : PEnv → M (List PV) := fun env st => (ds env st).bind fun ps st => match ps with
  | [p] => match still p with
    | some xs => .ok (pairs (intL 0 xs.length) xs) st
    | none => .stuck
  | _ => .stuck
theorem si_enum2 {e : Expr} {ta : TA} {ds : PEnv → M (List PV)} {p pos tpos : Pos} {elts : List Expr} {kk : Nat} (hg : Gl X "enumerate") (hm : X.mg "enumerate" = none) (ha : SA X W [e] ta ds) (hs : starEach [e] X.env = [(false, eval e X.env)] := by rfl) :
    SI X W (.Tuple elts kk tpos) (.Call (.Name "enumerate" p) [e] [] pos) (iEnum2 X.K ta) (enumD2 ds) := by
  refine ⟨pi_enum2 hg hm ha.pa hs, fun r s H env st R E Rl q => ?_⟩
  refine ha.so r s H env st _ E Rl (q.bind.imp fun ps st1 r1 H1 t1 R1 h1 vs hv => ?_)
  split at h1
  · rename_i p1
    obtain ⟨v, rfl, k⟩ := rep1 hv
    split at h1
    · rename_i xs hx
      obtain ⟨a, us, kd, rfl, f1, l1⟩ := still_ok k hx
      refine ⟨kd, a, us, rfl, f1 r1 H1 Evo.refl, h1 r1 H1 Step.refl R1 _ ?_⟩
      exact walks_pairs (n := us.length) (by simp [intL, l1.len]) walk_e2 (fun r' H' e => f1 r' H' e) (fun i v p hi hp => by
        cases hi; rw [intL_get hp]; simp only [Rep]; simp) (fun i v p hi hp => by
        obtain ⟨z, hz, kz⟩ := l1.get hp; rw [hi] at hz; cases hz; exact kz)
    · exact h1.elim
  · exact h1.elim
theorem evZip2 {a b : DE} {env : PEnv} {st s1 s2 : Store} {p q : PV} {xs ys : List PV} (ha : a env st = .ok p s1) (hb : b env s1 = .ok q s2) (h1 : still p = some xs) (h2 : still q = some ys) : zipD2 (dCons a (dCons b dNil)) env st = .ok (pairs xs ys) s2 := by
  unfold zipD2; rw [args1 ha (args1 hb args0), Res.bind_ok]; simp only [h1, h2]
theorem evEnum {a : DE} {env : PEnv} {st s1 : Store} {p : PV} {xs : List PV} (ha : a env st = .ok p s1) (h1 : still p = some xs) : enumD2 (dCons a dNil) env st = .ok (pairs (intL 0 xs.length) xs) s1 := by
  unfold enumD2; rw [args1 ha args0, Res.bind_ok]; simp only [h1]
end CD

set_option Elab.async false
set_option linter.all false
set_option maxRecDepth 100000
set_option maxHeartbeats 2000000
namespace CD
open PySem PySem.Spec PyProof.Rows L2 RZ StX ClX
variable {X : Cx} {W : WX}
/-! ### comprehensions with two fors -/
theorem it_gen {J : It} {n : Nat} {G : Hp → Prop} {Y : Nat → Hp → V → Hp → Prop} (w : Walk J n G Y) {B : (Hp → Prop) → V → Hp → Prop} {H0 : Hp} {Qd : Hp → Prop} (Pv : Nat → Hp → Prop) (h0 : Pv 0 H0) (hG : ∀ i H, i ≤ n → Pv i H → G H)
    (hs : ∀ i x H H', i < n → Pv i H → Y i H x H' → B (Pv (i + 1)) x H') (hd : ∀ H, Pv n H → Qd H) :
    ∃ W : Nat → Nat → Hp → Prop, (∃ m, W 0 m H0) ∧ ∀ i m H, W i m H → (J.stop i H ∧ Qd H) ∨ (J.go i H ∧ ∃ Nx : Hp → Prop, (∀ H', Nx H' → ∃ m', m' < m ∧ W (i + 1) m' H') ∧ ∀ x H', J.yld i H x H' → B Nx x H') := by
  refine ⟨fun i m H => m = n - i ∧ i ≤ n ∧ Pv i H, ⟨n, by simp, Nat.zero_le _, h0⟩, ?_⟩
  rintro i m H ⟨rfl, hi, p⟩
  have q := hG i H hi p
  by_cases hlt : i < n
  · refine .inr ⟨w.goes i H hlt q, Pv (i + 1), fun H' p' => ⟨n - (i + 1), by omega, rfl, hlt, p'⟩, fun x H' y => hs i x H H' hlt p (w.yields i H x H' hlt q y)⟩
  · have e : i = n := by omega
    subst e
    exact .inl ⟨w.stops H q, hd H p⟩
def lcL2 (g : PV → PEnv → M PEnv) (t : PEnv → M Bool) (it1 : PEnv → M (List PV)) (vs1 : List Nat) (g1 : PV → PEnv → M PEnv) (t1 : PEnv → M Bool) (e : DE) : List PV → List PV → PEnv → M (List PV)
  | [], acc, _, st => .ok acc st
  | x :: xs, acc, env, st => (g x env st).bind fun env1 st1 => (t env1 st1).bind fun b st2 => if b = true then (it1 env1 st2).bind fun ys st3 => (lcL g1 t1 e ys acc (wipeE env1 vs1) st3).bind fun acc1 st4 => lcL2 g t it1 vs1 g1 t1 e xs acc1 env st4
    else lcL2 g t it1 vs1 g1 t1 e xs acc env st2
def lcD2 (k : List PV → M PV) (it : PEnv → M (List PV)) (vs : List Nat) (g : PV → PEnv → M PEnv) (t : PEnv → M Bool) (it1 : PEnv → M (List PV)) (vs1 : List Nat) (g1 : PV → PEnv → M PEnv) (t1 : PEnv → M Bool) (e : DE) : DE := fun env st =>
  (it env st).bind fun xs st => (noX (lcL2 g t it1 vs1 g1 t1 e xs [] (wipeE env vs) st)).bind fun ys st => k ys st
theorem lc2_so {elt tg iter tg1 iter1 : Expr} {ifs ifs1 : List Expr} {scope : Scope} {own : List (Str × Nat)} {vs1 : List Nat} {wi wi1 : TI} {g g1 : TG} {tv tv1 : List Nat} {tt tt1 : TT} {te : TE} {di di1 : PEnv → M (List PV)} {dg dg1 : PV → PEnv → M PEnv} {dt dt1 : PEnv → M Bool} {de : DE} {k : List PV → M PV}
    (hk : KOk (gc X) k) (hi : SI X W tg iter wi di)
    (hg : ∀ (s : Shared) (H : Hp) (C : Addr) (cl : List (Str × Addr)) (fp : List Addr), SG (X.blk s H scope (compEnvC scope cl C X.env) fp) tg g tv dg) (ht : ∀ (s : Shared) (H : Hp) (C : Addr) (cl : List (Str × Addr)) (fp : List Addr), STs (X.blk s H scope (compEnvC scope cl C X.env) fp) WF ifs tt dt)
    (hi1 : ∀ (s : Shared) (H : Hp) (C : Addr) (cl : List (Str × Addr)) (fp : List Addr), SI (X.blk s H scope (compEnvC scope cl C X.env) fp) WF tg1 iter1 wi1 di1)
    (hg1 : ∀ (s : Shared) (H : Hp) (C : Addr) (cl : List (Str × Addr)) (fp : List Addr), SG (X.blk s H scope (compEnvC scope cl C X.env) fp) tg1 g1 tv1 dg1) (ht1 : ∀ (s : Shared) (H : Hp) (C : Addr) (cl : List (Str × Addr)) (fp : List Addr), STs (X.blk s H scope (compEnvC scope cl C X.env) fp) WF ifs1 tt1 dt1)
    (he : ∀ (s : Shared) (H : Hp) (C : Addr) (cl : List (Str × Addr)) (fp : List Addr), SE (X.blk s H scope (compEnvC scope cl C X.env) fp) WF elt te de) (hv : ∀ i ∈ tv, i ∈ own.map (·.2)) (hv1 : ∀ i ∈ tv1, i ∈ vs1) :
    ∀ r s H env st Q, EnvR (gc X) r H s env → SRel (gc X) r H st → Post (gc X) (fun c d H => W c d s H) r H (lcD2 k di (own.map (·.2)) dg dt di1 vs1 dg1 dt1 de env st) (okE (gc X) Q) → tLc2 wi g tt wi1 g1 tt1 te (own.map (·.2)) vs1 s H Q := by
  intro r s H env st Q E R h
  refine hi.so r s H env st _ E R (h.bind.imp fun xs st1 r1 H1 t1 R1 h1 J w D nD => ?_)
  obtain ⟨Gd, Y, wk, hG, hY⟩ := w.ex
  have hg0 := (hg {} H1 0 [] []).so
  have ht0 := (ht {} H1 0 [] []).so
  have hi0 := (hi1 {} H1 0 [] []).so
  have hg10 := (hg1 {} H1 0 [] []).so
  have ht10 := (ht1 {} H1 0 [] []).so
  have he0 := (he {} H1 0 [] []).so
  have DL1 : ¬ live r1 D := R1.fresh nD
  have DH1 : ¬ D ∈ r1.hid := fun z => R1.hd D z nD
  obtain ⟨ys, stF, hres, h1⟩ : ∃ ys stF, lcL2 dg dt di1 vs1 dg1 dt1 de xs [] (wipeE env (own.map (·.2))) st1 = .ok ys stF ∧ Post (gc X) (fun c d H => W c d s H) r1 H1 (k ys stF) (okE (gc X) Q) := by
    cases q : lcL2 dg dt di1 vs1 dg1 dt1 de xs [] (wipeE env (own.map (·.2))) st1 with
    | stuck => rw [q] at h1; exact h1.elim
    | ok ys stF => rw [q] at h1; exact ⟨ys, stF, rfl, h1⟩
    | exc _ _ _ => rw [q] at h1; exact h1.elim
  refine it_gen wk (B := fun Nx x H' => g x (L2.wipe s (own.map (·.2))) H' fun σ2 H2 => L2.wipe σ2 (own.map (·.2)) = L2.wipe s (own.map (·.2)) ∧ tt σ2 H2 fun b H3 =>
    if b = true then wi1 σ2 H3 fun J1 H4 => ∃ W1 : Nat → Nat → Hp → Prop, (∃ m, W1 0 m H4) ∧ ∀ j k H, W1 j k H →
      (J1.stop j H ∧ Nx H) ∨ (J1.go j H ∧ ∃ Nx1 : Hp → Prop, (∀ H', Nx1 H' → ∃ k', k' < k ∧ W1 (j + 1) k' H') ∧ ∀ x H', J1.yld j H x H' → g1 x (L2.wipe σ2 vs1) H' fun σ3 H5 => L2.wipe σ3 vs1 = L2.wipe σ2 vs1 ∧ tt1 σ3 H5 fun b H6 =>
        if b = true then te σ3 H6 fun y H7 => ∃ acc, H7 D = some (.lst acc) ∧ acc.length < sizeLine ∧ Nx1 (upd H7 D (.lst (acc ++ [y]))) else Nx1 H6)
    else Nx H3) (fun i H' => ∃ q acc vs st', Step r1 H1 q H' ∧ SRel (gc X) (q.hide D) H' st' ∧ H' D = some (.lst vs) ∧ ¬ live q D ∧ RepL (gc X) (q.hide D) H' acc vs ∧ EnvR (gc X) (q.hide D) H' (L2.wipe s (own.map (·.2))) (wipeE env (own.map (·.2))) ∧
      lcL2 dg dt di1 vs1 dg1 dt1 de (xs.drop i) acc (wipeE env (own.map (·.2))) st' = .ok ys stF)
    ⟨r1, [], [], st1, Step.new1 nD, R1.hide nD, upd_same, DL1, RepL.nil, ((E.step t1).wipe _).evo (Evo.hide nD), by rw [List.drop_zero]; exact hres⟩ (fun i H' _ p => ?_) (fun i x H' H2 hi' p y => ?_) (fun H' p => ?_)
  · obtain ⟨q, _, _, _, e, _⟩ := p
    exact hG q H' e.evo
  · obtain ⟨q, acc, vs, st', e, R', eD, nl, la, E', post⟩ := p
    have hx : xs[i]? = some xs[i] := List.getElem?_eq_getElem hi'
    obtain ⟨sm, kx⟩ := hY i (q.hide D) H' st' x H2 xs[i] (e.hideE nD) R' y hx
    rw [List.drop_eq_getElem_cons hi'] at post
    unfold lcL2 at post
    obtain ⟨env1, sta, q1, post⟩ := bind_ok post
    obtain ⟨b, stb, q2, post⟩ := bind_ok post
    have S2 : Step (q.hide D) H' (q.hide D) H2 := Step.same sm
    refine hg0 (q.hide D) (L2.wipe s (own.map (·.2))) H2 _ st' xs[i] x (fun _ _ _ => True) _ (E'.step S2) (R'.same sm) kx (Post.of_ok q1 fun ra Ha ta Ra s2 E2 w2 => ?_)
    refine ⟨by rw [w2 _ hv, wipe_wipe], ht0 ra s2 Ha env1 sta _ E2 Ra (Post.of_ok q2 fun rb Hb tb Rb => ?_)⟩
    have tab := ta.trans tb
    cases b with
    | false =>
      simp only [okT, Bool.false_eq_true, ↓reduceIte] at post ⊢
      obtain ⟨q', rfl⟩ := (S2.trans tab).isHide
      have U := (S2.trans tab).unhide
      exact ⟨q', acc, vs, stb, e.trans U, Rb, (S2.trans tab).keep D _ nl eD, U.dead nl eD, RepL.step (S2.trans tab) _ _ la, E'.step (S2.trans tab), post⟩
    | true =>
      simp only [okT, ↓reduceIte] at post ⊢
      obtain ⟨zs, stc, q3, post⟩ := bind_ok post
      obtain ⟨acc1, std, q4, post⟩ := bind_ok post
      refine hi0 rb s2 Hb env1 stb _ (E2.step tb) Rb (Post.of_ok q3 fun rc Hc tc Rc J1 w1 => ?_)
      obtain ⟨Gd1, Y1, wk1, hG1, hY1⟩ := w1.ex
      have tall := (S2.trans tab).trans tc
      obtain ⟨q', rfl⟩ := tall.isHide
      have U := tall.unhide
      have eDc := tall.keep D _ nl eD
      have lac := RepL.step tall _ _ la
      have nlc := U.dead nl eD
      refine it_gen wk1 (fun j H' => ∃ qj accj vsj stj, Step r1 H1 qj H' ∧ Evo (q'.hide D) Hc (qj.hide D) H' ∧ SRel (gc X) (qj.hide D) H' stj ∧ H' D = some (.lst vsj) ∧ ¬ live qj D ∧ RepL (gc X) (qj.hide D) H' accj vsj ∧
          EnvR (gc X) (qj.hide D) H' (L2.wipe s (own.map (·.2))) (wipeE env (own.map (·.2))) ∧ EnvR (gc X) (qj.hide D) H' (L2.wipe s2 vs1) (wipeE env1 vs1) ∧ lcL dg1 dt1 de (zs.drop j) accj (wipeE env1 vs1) stj = .ok acc1 std)
        ⟨q', acc, vs, stc, e.trans U, Evo.refl, Rc, eDc, nlc, lac, E'.step tall, ((E2.step tb).step tc).wipe _, by rw [List.drop_zero]; exact q4⟩ (fun j H' _ p => ?_) (fun j x H' H2 hj' p y => ?_) (fun H' p => ?_)
      · obtain ⟨qj, _, _, _, _, ev, _⟩ := p
        exact hG1 (qj.hide D) H' ev
      · obtain ⟨qj, accj, vsj, stj, ej, ev, Rj, eDj, nlj, laj, Ej, Fj, postj⟩ := p
        have hx : zs[j]? = some zs[j] := List.getElem?_eq_getElem hj'
        obtain ⟨sm, kx⟩ := hY1 j (qj.hide D) H' stj x H2 zs[j] ev Rj y hx
        rw [List.drop_eq_getElem_cons hj'] at postj
        unfold lcL at postj
        obtain ⟨env2, sta, q1, postj⟩ := bind_ok postj
        obtain ⟨b, stb, q2, postj⟩ := bind_ok postj
        have S2 : Step (qj.hide D) H' (qj.hide D) H2 := Step.same sm
        refine hg10 (qj.hide D) (L2.wipe s2 vs1) H2 _ stj zs[j] x (fun _ _ _ => True) _ (Fj.step S2) (Rj.same sm) kx (Post.of_ok q1 fun ra Ha ta Ra s3 E3 w3 => ?_)
        refine ⟨by rw [w3 _ hv1, wipe_wipe], ht10 ra s3 Ha env2 sta _ E3 Ra (Post.of_ok q2 fun rb Hb tb Rb => ?_)⟩
        have tab := ta.trans tb
        cases b with
        | false =>
          simp only [okT, Bool.false_eq_true, ↓reduceIte] at postj ⊢
          obtain ⟨q'', rfl⟩ := (S2.trans tab).isHide
          have U := (S2.trans tab).unhide
          exact ⟨q'', accj, vsj, stb, ej.trans U, ev.trans (S2.trans tab).evo, Rb, (S2.trans tab).keep D _ nlj eDj, U.dead nlj eDj, RepL.step (S2.trans tab) _ _ laj, Ej.step (S2.trans tab), Fj.step (S2.trans tab), postj⟩
        | true =>
          simp only [okT, ↓reduceIte] at postj ⊢
          obtain ⟨p, stc, q3, postj⟩ := bind_ok postj
          refine he0 rb s3 Hb env2 stb _ (E3.step tb) Rb (Post.of_ok q3 fun rc Hc tc Rc v kv => ?_)
          have tall := (S2.trans tab).trans tc
          obtain ⟨q'', rfl⟩ := tall.isHide
          have U := tall.unhide
          have eDc := tall.keep D _ nlj eDj
          have lac := RepL.step tall _ _ laj
          have nlc := U.dead nlj eDj
          have mD : D ∈ (q''.hide D).hid := List.mem_cons_self
          have hlen : accj.length < sizeLine := by
            by_cases z : accj.length < sizeLine
            · exact z
            · rw [if_neg z] at postj; cases postj
          rw [if_pos hlen] at postj
          refine ⟨vsj, eDc, by rw [← lac.len]; exact hlen, q'', accj ++ [p], vsj ++ [v], stc, (ej.trans U).out nD, (ev.trans tall.evo).trans (Evo.wr mD), Rc.wr mD nlc, upd_same, nlc, ?_, (Ej.step tall).evo (Evo.wr mD), (Fj.step tall).evo (Evo.wr mD), postj⟩
          exact RepL.append (RepL.evo (Evo.wr mD) _ _ lac) (RepL.cons (Rep.evo (Evo.wr mD) _ _ kv) RepL.nil)
      · obtain ⟨qj, accj, vsj, stj, ej, ev, Rj, eDj, nlj, laj, Ej, Fj, postj⟩ := p
        rw [List.drop_length] at postj
        unfold lcL at postj
        cases postj
        exact ⟨qj, acc1, vsj, std, ej, Rj, eDj, nlj, laj, Ej, post⟩
  · obtain ⟨q, acc, vs, st', e, R', eD, nl, la, E', post⟩ := p
    rw [List.drop_length] at post
    unfold lcL2 at post
    cases post
    exact hk q H' _ _ vs D _ Q R' eD nl (fun z => DH1 (by rw [← e.hid]; exact z)) la r1 H1 nD e h1
section
variable {elt tg iter tg1 iter1 : Expr} {ifs ifs1 : List Expr} {scope : Scope} {own : List (Str × Nat)} {vs1 : List Nat} {wi wi1 : TI} {g g1 : TG} {tv tv1 : List Nat} {tt tt1 : TT} {te : TE} {di di1 : PEnv → M (List PV)} {dg dg1 : PV → PEnv → M PEnv} {dt dt1 : PEnv → M Bool} {de : DE} {k : List PV → M PV} {pos : Pos}
theorem se_lc2K (hk : KOk (gc X) k) (hc : X.calm = true) (hN : X.N.Nodup) (hi : SI X W tg iter wi di) (ok : BlkOk X.N X.env.scope scope own) (hw : ∀ i ∈ vs1, i ∈ own.map (·.2))
    (hg : ∀ (s : Shared) (H : Hp) (C : Addr) (cl : List (Str × Addr)) (fp : List Addr), SG (X.blk s H scope (compEnvC scope cl C X.env) fp) tg g tv dg) (ht : ∀ (s : Shared) (H : Hp) (C : Addr) (cl : List (Str × Addr)) (fp : List Addr), STs (X.blk s H scope (compEnvC scope cl C X.env) fp) WF ifs tt dt)
    (hi1 : ∀ (s : Shared) (H : Hp) (C : Addr) (cl : List (Str × Addr)) (fp : List Addr), SI (X.blk s H scope (compEnvC scope cl C X.env) fp) WF tg1 iter1 wi1 di1)
    (hg1 : ∀ (s : Shared) (H : Hp) (C : Addr) (cl : List (Str × Addr)) (fp : List Addr), SG (X.blk s H scope (compEnvC scope cl C X.env) fp) tg1 g1 tv1 dg1) (ht1 : ∀ (s : Shared) (H : Hp) (C : Addr) (cl : List (Str × Addr)) (fp : List Addr), STs (X.blk s H scope (compEnvC scope cl C X.env) fp) WF ifs1 tt1 dt1)
    (he : ∀ (s : Shared) (H : Hp) (C : Addr) (cl : List (Str × Addr)) (fp : List Addr), SE (X.blk s H scope (compEnvC scope cl C X.env) fp) WF elt te de) (hv : ∀ i ∈ tv, i ∈ own.map (·.2) := by decide) (hv1 : ∀ i ∈ tv1, i ∈ vs1 := by decide)
    (hs : ∀ x, foldedSetIterable iter X.env x = pure x := by intro _; rfl) (hs1 : ∀ env x, foldedSetIterable iter1 env x = pure x := by intro _ _; rfl) : SE X W (.ListComp elt [⟨tg, iter, ifs, 0⟩, ⟨tg1, iter1, ifs1, 0⟩] scope pos) (tLc2 wi g tt wi1 g1 tt1 te (own.map (·.2)) vs1) (lcD2 k di (own.map (·.2)) dg dt di1 vs1 dg1 dt1 de) :=
  ⟨pe_lc2 hc hN hi.pi ok hw (fun s H C cl fp => (hg s H C cl fp).pg) (fun s H C cl fp => (ht s H C cl fp).pts) (fun s H C cl fp => (hi1 s H C cl fp).pi) (fun s H C cl fp => (hg1 s H C cl fp).pg) (fun s H C cl fp => (ht1 s H C cl fp).pts) (fun s H C cl fp => (he s H C cl fp).pe) hs hs1, lc2_so hk hi hg ht hi1 hg1 ht1 he hv hv1⟩
theorem ss_setLc2K {i : Nat} {y : Str} {py spos : Pos} (hk : KOk (gc X) k) (hc : X.calm = true) (hN : X.N.Nodup) (hsw : swapsWith (.ListComp elt [⟨tg, iter, ifs, 0⟩, ⟨tg1, iter1, ifs1, 0⟩] scope pos) (some (.Name y py)) spos.line X.env = pure true)
    (hi : SI X W tg iter wi di) (ok : BlkOk X.N X.env.scope scope own) (hw : ∀ i ∈ vs1, i ∈ own.map (·.2))
    (hg : ∀ (s : Shared) (H : Hp) (C : Addr) (cl : List (Str × Addr)) (fp : List Addr), SG (X.blk s H scope (compEnvC scope cl C X.env) fp) tg g tv dg) (ht : ∀ (s : Shared) (H : Hp) (C : Addr) (cl : List (Str × Addr)) (fp : List Addr), STs (X.blk s H scope (compEnvC scope cl C X.env) fp) WF ifs tt dt)
    (hi1 : ∀ (s : Shared) (H : Hp) (C : Addr) (cl : List (Str × Addr)) (fp : List Addr), SI (X.blk s H scope (compEnvC scope cl C X.env) fp) WF tg1 iter1 wi1 di1)
    (hg1 : ∀ (s : Shared) (H : Hp) (C : Addr) (cl : List (Str × Addr)) (fp : List Addr), SG (X.blk s H scope (compEnvC scope cl C X.env) fp) tg1 g1 tv1 dg1) (ht1 : ∀ (s : Shared) (H : Hp) (C : Addr) (cl : List (Str × Addr)) (fp : List Addr), STs (X.blk s H scope (compEnvC scope cl C X.env) fp) WF ifs1 tt1 dt1)
    (he : ∀ (s : Shared) (H : Hp) (C : Addr) (cl : List (Str × Addr)) (fp : List Addr), SE (X.blk s H scope (compEnvC scope cl C X.env) fp) WF elt te de) (hv : ∀ i ∈ tv, i ∈ own.map (·.2) := by decide) (hv1 : ∀ i ∈ tv1, i ∈ vs1 := by decide)
    (hy : X.N[i]? = some y := by rfl) (hyl : X.env.scope.names.lookup y = some .local := by rfl) (hs : ∀ x, foldedSetIterable iter X.env x = pure x := by intro _; rfl) (hs1 : ∀ env x, foldedSetIterable iter1 env x = pure x := by intro _ _; rfl) :
    SS X W (.Assign [.Name y py] (.ListComp elt [⟨tg, iter, ifs, 0⟩, ⟨tg1, iter1, ifs1, 0⟩] scope pos) spos) (tAsg (tLc2 wi g tt wi1 g1 tt1 te (own.map (·.2)) vs1) (gName i)) (setD i (lcD2 k di (own.map (·.2)) dg dt di1 vs1 dg1 dt1 de)) :=
  ⟨ps_setLc2 hc hN hy hyl hsw hi.pi ok hw (fun s H C cl fp => (hg s H C cl fp).pg) (fun s H C cl fp => (ht s H C cl fp).pts) (fun s H C cl fp => (hi1 s H C cl fp).pi) (fun s H C cl fp => (hg1 s H C cl fp).pg) (fun s H C cl fp => (ht1 s H C cl fp).pts) (fun s H C cl fp => (he s H C cl fp).pe) hs hs1, fun r s H env st D E R h =>
    lc2_so hk hi hg ht hi1 hg1 ht1 he hv hv1 r s H env st _ E R ((PostS.bind E h).imp fun p st1 r1 H1 t1 R1 h1 x hx => h1 r1 H1 _ Step.refl R1 ((E.step t1).set hx))⟩
end
end CD

set_option Elab.async false
set_option linter.all false
set_option maxRecDepth 100000
set_option maxHeartbeats 2000000
namespace CD
open PySem PySem.Spec PyProof.Rows L2 RZ StX ClX
variable {X : Cx} {W : WX}
/-- a text constant of the module -/
theorem se_gs {x : Str} {i : Str} {t : Tok} {pos : Pos} (hg : Gl X x) (hm : X.mg x = some (.str i t)) (hd : (x == ("__debug__" : Str)) = false := by decide) :
    SE X W (.Name x pos) (tC (.str i)) (dC (.str i)) := ⟨pe_glob hg hm ⟨t, rfl⟩ hd, fun r s H env st Q E R h => h r H Step.refl R _ rfl⟩
/-! ### in, index: flat items -/
def flatPV : PV → Option V
  | .non => some .non
  | .bl b => some (.bl b)
  | .int i => some (.int i)
  | .str x => some (.str x)
  | _ => none
theorem flatPV_ok {G : GC} {r : Loc} {H : Hp} {p : PV} {v x : V} (k : Rep G r H p v) (h : flatPV p = some x) : v = x ∧ flatV x = true := by
  cases p with
  | non => cases h; simp only [Rep] at k; exact ⟨k, rfl⟩
  | bl b => cases h; simp only [Rep] at k; exact ⟨k, rfl⟩
  | int i => cases h; simp only [Rep] at k; exact ⟨k, rfl⟩
  | str x => cases h; simp only [Rep] at k; exact ⟨k, rfl⟩
  | _ => cases h
def flatPVs : List PV → Option (List V)
  | [] => some []
  | p :: ps => match flatPV p, flatPVs ps with
    | some v, some vs => some (v :: vs)
    | _, _ => none
theorem flatPVs_ok {G : GC} {r : Loc} {H : Hp} : ∀ {p : List PV} {v x : List V}, RepL G r H p v → flatPVs p = some x → v = x ∧ x.all flatV = true
  | [], v, x, k, h => by simp only [RepL] at k; cases h; exact ⟨k, rfl⟩
  | p :: ps, v, x, k, h => by
    simp only [RepL] at k
    obtain ⟨w, ws, rfl, a, b⟩ := k
    unfold flatPVs at h
    split at h
    · rename_i y ys h1 h2
      cases h
      obtain ⟨rfl, f1⟩ := flatPV_ok a h1
      obtain ⟨rfl, f2⟩ := flatPVs_ok b h2
      exact ⟨rfl, by simp [f1, f2]⟩
    · cases h
def inD (neg : Bool) : PV → PV → M PV := fun p q st => match flatPV p, seqOf st q with
  | some x, some ys => match flatPVs ys with
    | some xs => .ok (.bl (if neg then !inV x xs else inV x xs)) st
    | none => .stuck
  | _, _ => .stuck
theorem sop_in {G : GC} {neg : Bool} : SOp G (rIn G.K neg) (inD neg) := by
  intro r H st p q x y E Q R hx hy h
  unfold inD at h
  split at h
  · rename_i v ys h1 h2
    split at h
    · rename_i xs h3
      obtain ⟨rfl, f1⟩ := flatPV_ok hx h1
      obtain ⟨a, vs, rfl, hs, l⟩ := seqOf_ok R hy h2
      obtain ⟨rfl, f2⟩ := flatPVs_ok l h3
      exact ⟨a, vs, rfl, hs, f1, f2, h r H Step.refl R _ rep_bl⟩
    · exact h.elim
  · exact h.elim
/-- the place of the first item that is equal, from a place on -/
def findFrom (x : V) : List V → Nat → Nat → Option Nat
  | [], _, _ => none
  | y :: ys, lo, k => if lo ≤ k ∧ eqV y x = true then some k else findFrom x ys lo (k + 1)
theorem findFrom_ok {x : V} : ∀ {ys : List V} {lo k j : Nat}, findFrom x ys lo k = some j → k ≤ j ∧ lo ≤ j ∧ (∃ z, ys[j - k]? = some z ∧ eqV z x = true) ∧ ∀ (m : Nat) z', k ≤ m → lo ≤ m → m < j → ys[m - k]? = some z' → eqV z' x = false
  | [], _, _, _, h => by cases h
  | y :: ys, lo, k, j, h => by
    unfold findFrom at h
    split at h
    · rename_i hc
      cases h
      exact ⟨Nat.le_refl _, hc.1, ⟨y, by simp, hc.2⟩, fun m z' h1 _ h2 => absurd h2 (by omega)⟩
    · rename_i hc
      obtain ⟨a, b, ⟨z, c, d⟩, e⟩ := findFrom_ok h
      refine ⟨by omega, b, ⟨z, by rw [show j - k = (j - (k + 1)) + 1 by omega]; simpa using c, d⟩, fun m z' h1 h2 h3 h4 => ?_⟩
      by_cases hm : m = k
      · subst hm
        rw [Nat.sub_self] at h4
        simp at h4; subst h4
        cases q : eqV y x with
        | false => rfl
        | true => exact absurd ⟨h2, q⟩ hc
      · exact e m z' (by omega) h2 h3 (by rw [show m - k = (m - (k + 1)) + 1 by omega] at h4; simpa using h4)
def rIndex3 (K : PySem.W.Frag) : V → List V → Hp → VK → Prop := fun x xs H Q => ∃ (a : Addr) (ys : List V) (y : V) (lo j : Nat) (z : V), x = V.ref a ∧ xs = [y, .int lo] ∧ SqL K H a ys ∧ flatV y = true ∧ ys.all flatV = true ∧ lo ≤ j ∧ ys[j]? = some z ∧ eqV z y = true ∧
  (∀ (m : Nat) (z' : V), lo ≤ m → m < j → ys[m]? = some z' → eqV z' y = false) ∧ Q (.int (j : Nat)) H
theorem mt_index3 : MtR X "list.index" (rIndex3 X.K) := by
  intro pins s σ H x xs v us Q I rx rxs h
  obtain ⟨a, ys, y, lo, j, z, rfl, rfl, hs, fy, fys, hlo, hz, hzj, hno, q⟩ := h
  cases rx
  cases rxs with
  | cons ry rt =>
    rename_i uy ut
    cases rt with
    | cons ri rt =>
    cases rt
    obtain ⟨t, rfl⟩ := ri
    obtain ⟨its, rv, ⟨⟨cls, dd, data, sl⟩, n, ho, hc, hdn, hd⟩, hlen⟩ := I.list hs
    simp only at hc hd
    subst hc hd
    obtain ⟨u, hu, ru⟩ := rv.get hz
    obtain ⟨hjl, hje⟩ := List.getElem?_eq_some_iff.mp hu
    have hvl := rv.length
    have hj : j < its.toArray.size := by simpa using hjl
    have hsl := sizeLine_eq
    let e : Nat → Bool := fun m => match ys[m]? with
      | some w => eqV w y
      | none => false
    refine call_meets PySem.F.slot_list_index ⟨_, ho, rfl⟩ PySem.F.entry_list_index (PySem.F.args_list_index_3 _ _ _)
      (PySem.SeqAt.list_index3_found a its.toArray n dd sl uy e (lo : Int) t j hj (by rw [PySem.SeqAt.searchFrom_nat]; exact hlo) (by omega) ?_ ?_) ⟨ho, fun m hm => ?_, ?_⟩
    · simp only [e, hz]; exact hzj
    · intro m hm h1 hmj
      rw [PySem.SeqAt.searchFrom_nat] at h1
      have hml : m < its.length := by simpa using hm
      have hmy : m < ys.length := by omega
      have hy' : ys[m]? = some ys[m] := List.getElem?_eq_getElem hmy
      simp only [e, hy']
      exact hno m _ h1 hmj hy'
    · have hml : m < its.length := by simpa using hm
      have hmy : m < ys.length := by omega
      have hy' : ys[m]? = some ys[m] := List.getElem?_eq_getElem hmy
      obtain ⟨u2, hu2, ru2⟩ := rv.get hy'
      obtain ⟨_, hme⟩ := List.getElem?_eq_some_iff.mp hu2
      have e1 : its.toArray[m] = u2 := by simpa using hme
      rw [e1]
      simp only [e, hy']
      exact eqAt_V ru2 ry (flat_at fys hy') fy
    · exact ⟨.int (j : Nat), H, I.tok _, ⟨_, rfl⟩, q⟩
def idxF : PV → List PV → M PV := fun p qs st => match qs, sqlOf st p with
  | [q], some ys => match flatPV q, flatPVs ys with
    | some x, some xs => match findFrom x xs 0 0 with
      | some j => .ok (.int (j : Nat)) st
      | none => .stuck
    | _, _ => .stuck
  | _, _ => .stuck
theorem smeth_index {G : GC} : SMeth G (rIndex G.K) idxF := by
  intro r H st p x ps xs E Q R hx hxs h
  unfold idxF at h
  split at h
  · rename_i q ys hl
    obtain ⟨v, rfl, k⟩ := rep1 hxs
    split at h
    · rename_i y ws h1 h2
      split at h
      · rename_i j hj
        obtain ⟨a, vs, rfl, hs, l⟩ := sqlOf_ok R hx hl
        obtain ⟨rfl, f1⟩ := flatPV_ok k h1
        obtain ⟨rfl, f2⟩ := flatPVs_ok l h2
        obtain ⟨_, _, ⟨z, hz, hzj⟩, hno⟩ := findFrom_ok hj
        exact ⟨a, vs, _, j, z, rfl, rfl, hs, f1, f2, by simpa using hz, hzj, fun m z' hm hz' => hno m z' (by omega) (by omega) hm (by simpa using hz'), h r H Step.refl R _ (by simp only [Rep])⟩
      · exact h.elim
    · exact h.elim
  · exact h.elim
def idx3F : PV → List PV → M PV := fun p qs st => match qs, sqlOf st p with
  | [q, .int lo], some ys => match flatPV q, flatPVs ys with
    | some x, some xs => match findFrom x xs lo.toNat 0 with
      | some j => if 0 ≤ lo then .ok (.int (j : Nat)) st else .stuck
      | none => .stuck
    | _, _ => .stuck
  | _, _ => .stuck
theorem smeth_index3 {G : GC} : SMeth G (rIndex3 G.K) idx3F := by
  intro r H st p x ps xs E Q R hx hxs h
  unfold idx3F at h
  split at h
  · rename_i q lo ys hl
    obtain ⟨v, w, rfl, k, k2⟩ := rep2 hxs
    split at h
    · rename_i y ws h1 h2
      split at h
      · rename_i j hj
        split at h
        · rename_i h0
          obtain ⟨a, vs, rfl, hs, l⟩ := sqlOf_ok R hx hl
          obtain ⟨rfl, f1⟩ := flatPV_ok k h1
          obtain ⟨rfl, f2⟩ := flatPVs_ok l h2
          obtain ⟨_, hlo, ⟨z, hz, hzj⟩, hno⟩ := findFrom_ok hj
          simp only [Rep] at k2
          subst k2
          exact ⟨a, vs, _, lo.toNat, j, z, rfl, by rw [show ((lo.toNat : Nat) : Int) = lo by omega], hs, f1, f2, hlo, by simpa using hz, hzj, fun m z' h1 hm hz' => hno m z' (by omega) h1 hm (by simpa using hz'), h r H Step.refl R _ (by simp only [Rep])⟩
        · exact h.elim
      · exact h.elim
    · exact h.elim
  · exact h.elim
theorem scall_listL {G : GC} : SCall G (fun xs H Q => ∃ p ys, xs = [.ref p] ∧ (SqL G.K H p ys ∨ SqT G.K H p ys) ∧ ∀ l, H l = none → Q (.ref l) (upd H l (.lst ys))) (listF okL) :=
  scall_list fun r H st ps vs E Q R l h p n => h r _ (Step.new1 n) (R.new1 n) _ (Rep.newLst R n l)
/-! ### sorted of a list of ints -/
def sortI (l : List Int) : List Int := l.mergeSort (fun a b => decide (a ≤ b))
def sortF : List PV → M PV
  | [p] => fun st => match sqlOf st p with
    | some xs => match intsOf xs with
      | some ns => .ok (.lst ((sortI ns).map .int)) st
      | none => .stuck
    | none => .stuck
  | _ => nope
/-! ### by values -/
theorem flatPVs_ints : ∀ l : List Int, flatPVs (l.map .int) = some (l.map V.int)
  | [] => rfl
  | x :: l => by simp [flatPVs, flatPV, flatPVs_ints l]
theorem inV_ints {x : Int} (l : List Int) : inV (.int x) (l.map V.int) = decide (x ∈ l) := by
  unfold inV
  induction l with
  | nil => rfl
  | cons a l ih =>
    rw [List.map_cons, List.any_cons, ih]
    by_cases h : x = a
    · subst h; simp [eqV]
    · have : (a == x) = false := by simp; exact fun z => h z.symm
      simp [eqV, this, h]
theorem ev_inI {neg : Bool} {x : Int} {l : List Int} {q : PV} {st : Store} (h : seqOf st q = some (l.map .int)) : inD neg (.int x) q st = .ok (.bl (decide (x ∈ l) != neg)) st := by
  unfold inD
  simp only [flatPV, h, flatPVs_ints, inV_ints]
  cases neg <;> simp
theorem ev_inS {neg : Bool} {x : Str} {ys : List PV} {xs : List V} {q : PV} {st : Store} (h : seqOf st q = some ys) (h2 : flatPVs ys = some xs) : inD neg (.str x) q st = .ok (.bl (inV (.str x) xs != neg)) st := by
  unfold inD
  simp only [flatPV, h, h2]
  cases neg <;> simp
def findI (x : Int) : List Int → Nat → Nat → Option Nat
  | [], _, _ => none
  | y :: ys, lo, k => if lo ≤ k ∧ y = x then some k else findI x ys lo (k + 1)
theorem findFrom_ints {x : Int} : ∀ (l : List Int) (lo k : Nat), findFrom (.int x) (l.map V.int) lo k = findI x l lo k
  | [], _, _ => rfl
  | y :: l, lo, k => by
    simp only [List.map_cons, findFrom, findI, findFrom_ints l lo (k + 1)]
    by_cases h : y = x
    · subst h; simp [eqV]
    · simp [eqV, h]
theorem ev_idx3 {x lo : Int} {l : List Int} {j : Nat} {p : PV} {st : Store} (h : sqlOf st p = some (l.map .int)) (h0 : 0 ≤ lo) (hj : findI x l lo.toNat 0 = some j) : idx3F p [.int x, .int lo] st = .ok (.int j) st := by
  unfold idx3F
  simp only [h, flatPV, flatPVs_ints, findFrom_ints, hj]
  rw [if_pos h0]
/-! ### ~ -/
def invOD (c : Str) (n : Nat) (F : List PV → M PV) (d : DE) : DE := fun env st => (d env st).bind fun p st => noX (callO n c F p [] st)
theorem se_invO {k n : Nat} {g : Addr} {F : List PV → M PV} {c : Str} {e : Expr} {te : TE} {d : DE} {pos : Pos} (S : SpecF (gc X) c "__invert__" g) (hF : FnP X.prog X.w (gc X) X.base k g n F) (hr : Room k X.A) (he : SE X W e te d) :
    SE X W (.UnaryOp .Invert e pos) (tUn (rInv (gc X) c n F) te) (invOD c n F d) := se_inv S hF hr he
theorem ev_invO {n : Nat} {F : List PV → M PV} {c : Str} {d : DE} {env : PEnv} {st : Store} {p v : PV} (h : d env st = .ok p st) (hF : callO n c F p [] st = .ok v st) : invOD c n F d env st = .ok v st := by
  unfold invOD; rw [h, Res.bind_ok, hF]; rfl
end CD

set_option Elab.async false
set_option linter.all false
set_option maxRecDepth 100000
set_option maxHeartbeats 2000000
namespace CD
open PySem PySem.Spec PyProof.Rows L2 RZ StX ClX
variable {X : Cx} {W : WX}
/-! ### a value as a test -/
def truF (st : Store) : PV → Option Bool
  | .non => some false
  | .bl b => some b
  | .int i => some (i != 0)
  | .str y => if y.length ≤ sizeLine then some ((y.length : Int) != 0) else none
  | p => (seqOf st p).map fun xs => !xs.isEmpty
def truM (p : PV) : M Bool := fun st => match truF st p with
  | some b => .ok b st
  | none => .stuck
theorem truF_ok {G : GC} {r : Loc} {H : Hp} {st : Store} {p : PV} {v : V} {b : Bool} (R : SRel G r H st) (k : Rep G r H p v) (h : truF st p = some b) : TruV G.K v H b := by
  have sq : ∀ {p : PV}, Rep G r H p v → (seqOf st p).map (fun xs => !xs.isEmpty) = some b → TruV G.K v H b := fun {p} k h => by
    obtain ⟨xs, hx, rfl⟩ := map_some h
    obtain ⟨a, vs, rfl, hs, l⟩ := seqOf_ok R k hx
    have e : xs.isEmpty = vs.isEmpty := by
      have := l.len
      cases xs <;> cases vs <;> simp_all
    rw [e]
    rcases hs with hs | hs
    · exact .inl ⟨vs, hs, rfl⟩
    · exact .inr (.inl ⟨vs, hs, rfl⟩)
  cases p with
  | non => cases h; simp only [Rep] at k; subst k; rfl
  | bl c => cases h; simp only [Rep] at k; subst k; rfl
  | int i => cases h; simp only [Rep] at k; subst k; rfl
  | str y =>
    simp only [truF] at h
    split at h
    · rename_i hl; cases h; simp only [Rep] at k; subst k; exact ⟨hl, rfl⟩
    · cases h
  | tup xs => exact sq k h
  | lst xs => exact sq k h
  | rls xs => exact sq k h
  | loc l => exact sq k h
  | ty n => simp [truF, seqOf, tupOf, sqlOf, lstOf] at h
  | gl n => simp [truF, seqOf, tupOf, sqlOf, lstOf] at h
  | obj c ns fs => simp [truF, seqOf, tupOf, sqlOf, lstOf] at h
  | dct lk ks xs => simp [truF, seqOf, tupOf, sqlOf, lstOf] at h
def dTru (d : DE) : PEnv → M Bool := fun env st => (d env st).bind truM
def tTru (K : PySem.W.Frag) (ta : TE) : TT := fun σ H Q => ta σ H fun x H1 => ∃ b, TruV K x H1 b ∧ Q b H1
theorem sb_tru {a : Expr} {ta : TE} {d : DE} (ha : SE X W a ta d) (he : ∀ whole, isTrue a X.env whole = (do let v ← whole; standAt a.pos; holding [v] (truthy v)) := by intro _; rfl) : SB X W a (tTru X.K ta) (dTru d) := by
  refine ⟨pt_truth ha.pe he, fun r s H env st Q E R h => ?_⟩
  refine ha.so r s H env st _ E R (h.bind.imp fun p st1 r1 H1 t1 R1 h1 x hx => ?_)
  unfold truM at h1
  split at h1
  · rename_i b hb
    exact ⟨b, truF_ok R1 hx hb, h1 r1 H1 Step.refl R1⟩
  · exact h1.elim
theorem evTru {d : DE} {env : PEnv} {st s1 : Store} {p : PV} {b : Bool} (h : d env st = .ok p s1) (hb : truF s1 p = some b) : dTru d env st = .ok b s1 := by
  unfold dTru; rw [h, Res.bind_ok]; unfold truM; rw [hb]
/-- keywords, and parameters for keywords alone that are not given -/
theorem kwb_kw {K : PySem.W.Frag} {fd : FuncData} {ps ks : List Str} {D : Addr} {l : List (Str × Value)} {n : Nat} {ix : List (Nat × Nat)} (h : ∀ q ∈ l, PySem.W.nsIn K D q.1 = some (some q.2))
    (hb : ∀ us ws : List Value, us.length = n → ws.length = ks.length → KwChain D l (bindArgs fd ⟨us, ks.zip ws⟩) (ps.zip (pick us ws (l.map (·.2)) ix))) : KwB K fd ps n ks (l.map (·.2)) ix := fun s us ws X h1 h2 =>
  BindsTo.of_looks fun M => KwChain.looks X h (hb us ws h1 h2)
/-! ### comprehensions with two fors, by values -/
section
variable {env : PEnv} {st : Store}
/-- the inner turns, reading alone -/
theorem lcL_map_acc {γ : Type} {g : PV → PEnv → M PEnv} {e : DE} {enc : γ → PV} {f : γ → PV} {e1 : γ → PEnv} {env : PEnv} : ∀ (l : List γ) (acc : List PV), acc.length + l.length ≤ 100000 → (∀ x ∈ l, g (enc x) env st = .ok (e1 x) st ∧ e (e1 x) st = .ok (f x) st) →
    lcL g yesB e (l.map enc) acc env st = .ok (acc ++ l.map f) st
  | [], acc, _, _ => by simp [lcL]
  | x :: l, acc, hl, h => by
    obtain ⟨h1, h2⟩ := h x List.mem_cons_self
    simp only [List.length_cons] at hl
    have hz : acc.length < sizeLine := Nat.lt_of_lt_of_le (show acc.length < 100000 by omega) (by decide)
    have ih := lcL_map_acc (g := g) (e := e) (enc := enc) (f := f) (e1 := e1) (env := env) l (acc ++ [f x]) (by simp; omega) fun y hy => h y (List.mem_cons_of_mem _ hy)
    simp only [List.map_cons, lcL, h1, Res.bind_ok, yesB, if_true, h2]
    rw [if_pos hz, ih]; simp
theorem lcL2_map {γ δ : Type} {g : PV → PEnv → M PEnv} {it1 : PEnv → M (List PV)} {vs1 : List Nat} {g1 : PV → PEnv → M PEnv} {e : DE} {enc : γ → PV} {e1 : γ → PEnv} {inn : γ → List δ} {enc1 : δ → PV} {e2 : γ → δ → PEnv} {f : γ → δ → PV} {env : PEnv} : ∀ (l : List γ) (acc : List PV), acc.length + (l.map fun x => (inn x).length).sum ≤ 100000 →
    (∀ x ∈ l, g (enc x) env st = .ok (e1 x) st ∧ it1 (e1 x) st = .ok ((inn x).map enc1) st ∧ ∀ y ∈ inn x, g1 (enc1 y) (wipeE (e1 x) vs1) st = .ok (e2 x y) st ∧ e (e2 x y) st = .ok (f x y) st) →
    lcL2 g yesB it1 vs1 g1 yesB e (l.map enc) acc env st = .ok (acc ++ l.flatMap fun x => (inn x).map (f x)) st
  | [], acc, _, _ => by simp [lcL2]
  | x :: l, acc, hl, h => by
    obtain ⟨h1, h2, h3⟩ := h x List.mem_cons_self
    simp only [List.map_cons, List.sum_cons] at hl
    have hi := lcL_map_acc (st := st) (g := g1) (e := e) (enc := enc1) (f := f x) (e1 := e2 x) (env := wipeE (e1 x) vs1) (inn x) acc (by omega) h3
    have ih := lcL2_map (g := g) (it1 := it1) (vs1 := vs1) (g1 := g1) (e := e) (enc := enc) (e1 := e1) (inn := inn) (enc1 := enc1) (e2 := e2) (f := f) (env := env) l (acc ++ (inn x).map (f x)) (by simp; omega) fun y hy => h y (List.mem_cons_of_mem _ hy)
    simp only [List.map_cons, lcL2, h1, Res.bind_ok, yesB, if_true, h2, hi, ih]
    simp
theorem pLc2 {γ δ : Type} {it : PEnv → M (List PV)} {vs : List Nat} {g : PV → PEnv → M PEnv} {it1 : PEnv → M (List PV)} {vs1 : List Nat} {g1 : PV → PEnv → M PEnv} {e : DE} {k : List PV → M PV} {l : List γ} {enc : γ → PV} {inn : γ → List δ} {enc1 : δ → PV} (f : γ → δ → PV) (e1 : γ → PEnv) (e2 : γ → δ → PEnv)
    (hi : it env st = .ok (l.map enc) st) (hl : (l.map fun x => (inn x).length).sum ≤ 100000)
    (h : ∀ x ∈ l, g (enc x) (wipeE env vs) st = .ok (e1 x) st ∧ it1 (e1 x) st = .ok ((inn x).map enc1) st ∧ ∀ y ∈ inn x, g1 (enc1 y) (wipeE (e1 x) vs1) st = .ok (e2 x y) st ∧ e (e2 x y) st = .ok (f x y) st) :
    lcD2 k it vs g yesB it1 vs1 g1 yesB e env st = k (l.flatMap fun x => (inn x).map (f x)) st := by
  unfold lcD2
  rw [hi, Res.bind_ok, lcL2_map l [] (by simpa using hl) h]
  simp [noX, Res.bind]
end
/-! ### a loop that searches -/
theorem wp_ff {it : PEnv → M (List PV)} {g : PV → PEnv → M PEnv} {b d : DS} {xs : List PV} {env : PEnv} {st : Store} {P : Flow → Store → Prop} (I : PEnv → Prop) (f : PV → Option PV) (hi : it env st = .ok xs st) (h0 : I env)
    (hs : ∀ x ∈ xs, ∀ e, I e → Ok (g x e st) fun e1 s => s = st ∧ Ok (b e1 st) fun fl s => s = st ∧ ((f x = none ∧ ∃ e2, fl = .nx e2 ∧ I e2) ∨ ∃ v, f x = some v ∧ fl = .rt v))
    (hk : ∀ e, I e → xs.findSome? f = none → Ok (d e st) P) (hr : ∀ v, xs.findSome? f = some v → P (.rt v) st) : Ok (seqD (forD it g b) d env st) P := by
  refine wp_forR (I := fun i e s => s = st ∧ I e ∧ (xs.take i).findSome? f = none) hi ⟨rfl, h0, by simp⟩ ?_ ?_
  · rintro i x e s hx ⟨rfl, hI, hn⟩
    have hxi := lt_of_get hx
    have hsplit : xs = xs.take i ++ x :: xs.drop (i + 1) := by
      have := List.take_append_drop i xs
      rw [List.drop_eq_getElem_cons hxi] at this
      have e2 : xs[i] = x := (List.getElem?_eq_some_iff.mp hx).2
      rw [e2] at this
      exact this.symm
    obtain ⟨e1, s1, h1, rfl, fl, s2, h2, rfl, h3⟩ := hs x (List.mem_of_getElem? hx) e hI
    refine ⟨e1, _, h1, fl, _, h2, ?_⟩
    rcases h3 with ⟨hf, e2, rfl, hI2⟩ | ⟨v, hf, rfl⟩
    · refine .inl ⟨e2, rfl, rfl, hI2, ?_⟩
      rw [List.take_add_one, hx, List.findSome?_append, hn]
      simp [hf]
    · refine .inr ⟨v, rfl, hr v ?_⟩
      rw [hsplit, List.findSome?_append, hn]
      simp [hf]
  · rintro e s ⟨rfl, hI, hn⟩
    rw [List.take_length] at hn
    exact hk e hI hn
end CD

set_option Elab.async false
set_option linter.all false
set_option maxRecDepth 100000
set_option maxHeartbeats 2000000
namespace CD
open PySem PySem.Spec PyProof.Rows L2 RZ StX ClX
variable {X : Cx} {W : WX}
theorem scall_listM {G : GC} : SCall G (fun xs H Q => ∃ p ys, xs = [.ref p] ∧ (SqL G.K H p ys ∨ SqT G.K H p ys) ∧ ∀ l, H l = none → Q (.ref l) (upd H l (.lst ys))) (listF allocL) :=
  scall_list fun r H st ps vs E Q R l h => alloc_ok R l h
/-! ### sorted of a list of ints -/
theorem sortI_perm (l : List Int) : (sortI l).Perm l := List.mergeSort_perm l _
theorem sortI_le (l : List Int) : (sortI l).Pairwise (· ≤ ·) := by
  have := List.pairwise_mergeSort (le := fun a b : Int => decide (a ≤ b)) (fun a b c h1 h2 => by simp at h1 h2 ⊢; omega) (fun a b => by simp; omega) l
  exact this.imp fun h => by simpa using h
theorem sortI_only {l l' : List Int} (h : l'.Perm l) (hs : l'.Pairwise (· ≤ ·)) : l' = sortI l :=
  List.Perm.eq_of_pairwise (fun a b _ _ h1 h2 => Int.le_antisymm h1 h2) hs (sortI_le l) (h.trans (sortI_perm l).symm)
theorem repL_ints {G : GC} {r : Loc} {H : Hp} : ∀ l : List Int, RepL G r H (l.map .int) (l.map V.int)
  | [] => RepL.nil
  | x :: l => RepL.cons rep_int (repL_ints l)
theorem scall_sortI {G : GC} : SCall G (rSortedI G.K) sortF := by
  intro r H st ps xs E Q R hx h
  unfold sortF at h
  split at h
  · obtain ⟨v, rfl, q⟩ := rep1 hx
    split at h
    · rename_i ys hs
      split at h
      · rename_i ns hn
        obtain ⟨a, vs, e, f, l⟩ := sqlOf_ok R q hs
        subst e
        have := intsOf_ok l hn
        subst this
        refine ⟨a, ns, rfl, f, fun ns' p hp hs' n => ?_⟩
        rw [sortI_only hp hs']
        exact h r _ (Step.new1 n) (R.new1 n) _ (Rep.newLst R n (repL_ints _))
      · exact h.elim
    · exact h.elim
  · exact h.elim
theorem ev_sortI {l : List Int} {p : PV} {st : Store} (h : sqlOf st p = some (l.map .int)) : sortF [p] st = .ok (.lst ((sortI l).map .int)) st := by
  unfold sortF
  simp only [h, intsOf_map]
/-! ### a, b = a list -/
def gTL (n : Nat) (ds : List PV → PEnv → M PEnv) : PV → PEnv → M PEnv := fun p env st => match p with
  | .lst xs => iteM (xs.length = n) (ds xs env) st
  | _ => .stuck
theorem sg_tupL {es : List Expr} {k : Nat} {gs : TGs} {tv : List Nat} {ds : List PV → PEnv → M PEnv} {n : Nat} {pos : Pos} (hc : X.calm = true) (h : SGs X es gs tv ds)
    (hn : (assignEach es X.env).length = n := by rfl) (hst : (assignEach es X.env).findIdx? (·.1) = none := by rfl) : SG X (.Tuple es k pos) (gLst X.K n gs) tv (gTL n ds) := by
  refine ⟨pg_lst hc h.pgs hn hst, fun r s H env st p v E Q e R k h' => ?_⟩
  cases p with
  | lst xs =>
    obtain ⟨hl, h'⟩ := Post.iteM h'
    simp only [Rep] at k
    obtain ⟨a, vs, rfl, f, _, l⟩ := k
    exact ⟨a, vs, rfl, .inl (.inl f), l.len.symm.trans hl, h.so r s H env st xs vs E Q e R l h'⟩
  | _ => exact h'.elim
/-! ### a, b, c = x, y, z -/
def par3D (i j l : Nat) (ds : PEnv → M (List PV)) : DS := fun env st => (tagE env (ds env st)).bind fun ps st => match ps with
  | [p, q, o] => .ok (.nx (((env.set i (some p)).set j (some q)).set l (some o))) st
  | _ => .stuck
theorem ss_par3 {i j l : Nat} {x y z : Str} {a b c : Expr} {ta : TA} {ds : PEnv → M (List PV)} {px py pz pt pos : Pos} {kt k2 pt2} (hc : X.calm = true) (hN : X.N.Nodup) (ha : SA X W [a, b, c] ta ds) (hi : X.N[i]? = some x := by rfl) (hj : X.N[j]? = some y := by rfl) (hl : X.N[l]? = some z := by rfl) (hij : i ≠ j := by decide) (hil : i ≠ l := by decide) (hjl : j ≠ l := by decide)
    (hx : X.env.scope.names.lookup x = some .local := by rfl) (hy : X.env.scope.names.lookup y = some .local := by rfl) (hz : X.env.scope.names.lookup z = some .local := by rfl)
    (hw : swappedStores [.Tuple [.Name x px, .Name y py, .Name z pz] kt pt] (.Tuple [a, b, c] k2 pt2) X.env = pure (some [x, y, z]) := by rfl)
    (hsole : swapsWithSole [.Tuple [.Name x px, .Name y py, .Name z pz] kt pt] (.Tuple [a, b, c] k2 pt2) pos.line X.env = pure false := by rfl) :
    SS X W (.Assign [.Tuple [.Name x px, .Name y py, .Name z pz] kt pt] (.Tuple [a, b, c] k2 pt2) pos) (tPar3 i j l ta) (par3D i j l ds) := by
  refine ⟨ps_par3 hc hN hi hj hl hij hil hjl hx hy hz ha.pa hw hsole, fun r s H env st D E R h => ?_⟩
  refine ha.so r s H env st _ E R ((PostS.bind E h).imp fun ps st1 r1 H1 t1 R1 h1 vs hv => ?_)
  split at h1
  · rename_i p q o
    obtain ⟨u, v, w, rfl, ku, kv, kw⟩ := rep3 hv
    exact ⟨u, v, w, rfl, h1 r1 H1 _ Step.refl R1 ((((E.step t1).set ku).set kv).set kw)⟩
  · exact h1.elim
theorem par3_ok {i j l : Nat} {d : DS} {ds : PEnv → M (List PV)} {env : PEnv} {st s1 : Store} {p q o : PV} {P : Flow → Store → Prop} (e : ds env st = .ok [p, q, o] s1) (k : Ok (d (((env.set i (some p)).set j (some q)).set l (some o)) s1) P) : Ok (seqD (par3D i j l ds) d env st) P := by
  refine Ok.eq ?_ k
  unfold seqD par3D
  rw [e]; rfl
theorem wp_par3O {i j l : Nat} {d : DS} {ds : PEnv → M (List PV)} {env : PEnv} {st : Store} {P : Flow → Store → Prop} (h : Ok (ds env st) fun ps s => ∃ p q o, ps = [p, q, o] ∧ Ok (d (((env.set i (some p)).set j (some q)).set l (some o)) s) P) : Ok (seqD (par3D i j l ds) d env st) P := by
  obtain ⟨_, s, e, p, q, o, rfl, k⟩ := h; exact par3_ok e k
end CD

set_option Elab.async false
set_option linter.all false
set_option maxRecDepth 100000
set_option maxHeartbeats 2000000
namespace CD
open PySem PySem.Spec PyProof.Rows L2 RZ StX ClX
variable {X : Cx} {W : WX}
/-! ### f-strings of texts and numbers -/
def fmtF : PV → M PV
  | .str y => iteM (y.length ≤ sizeLine) (okM (.str y))
  | .int i => iteM (i.natAbs.log2 < 1920) (okM (.str (toString i)))
  | _ => nope
def fmtD (d : DE) : DE := fun env st => (d env st).bind fmtF
theorem se_fmt {e : Expr} {te : TE} {d : DE} {pos : Pos} (h : SE X W e te d) : SE X W (.FormattedValue e (-1) none pos) (tFmt te) (fmtD d) := by
  refine ⟨pe_fmt h.pe, fun r s H env st Q E R k => h.so r s H env st _ E R (k.bind.imp fun p st1 r1 H1 t1 R1 k1 x hx => ?_)⟩
  cases p with
  | str y =>
    obtain ⟨hz, k1⟩ := Post.iteM k1
    simp only [Rep] at hx
    subst hx
    exact .inl ⟨y, rfl, hz, k1 r1 H1 Step.refl R1 _ rep_str⟩
  | int i =>
    obtain ⟨hz, k1⟩ := Post.iteM k1
    simp only [Rep] at hx
    subst hx
    exact .inr ⟨i, rfl, hz, k1 r1 H1 Step.refl R1 _ rep_str⟩
  | _ => exact k1.elim
def jNil : Str → PEnv → M Str := fun acc _ st => .ok acc st
def jMore (d : DE) (ds : Str → PEnv → M Str) : Str → PEnv → M Str := fun acc env st => (d env st).bind fun p st => match p with
  | .str y => iteM ((acc ++ y).length ≤ sizeLine) (ds (acc ++ y) env) st
  | _ => .stuck
def jsD (ds : Str → PEnv → M Str) : DE := fun env st => (ds Str.empty env st).bind fun x st => .ok (.str x) st
structure SJ (X : Cx) (W : WX) (es : List Expr) (ts : List TE) (ds : Str → PEnv → M Str) : Prop where
  pj : PJ X es ts
  so : ∀ r s H env st acc Q, EnvR (gc X) r H s env → SRel (gc X) r H st → Post (gc X) (fun c d H => W c d s H) r H (ds acc env st) (fun x _ _ H => Q x H) → tJs ts acc s H Q
theorem sj_nil : SJ X W [] [] jNil := ⟨.nil, fun r s H env st acc Q E R h => h r H Step.refl R⟩
theorem sj_cons {e : Expr} {te : TE} {d : DE} {es : List Expr} {ts : List TE} {ds : Str → PEnv → M Str} (h : SE X W e te d) (hr : SJ X W es ts ds) : SJ X W (e :: es) (te :: ts) (jMore d ds) := by
  refine ⟨.cons h.pe hr.pj, fun r s H env st acc Q E R k => h.so r s H env st _ E R (k.bind.imp fun p st1 r1 H1 t1 R1 k1 x hx => ?_)⟩
  cases p with
  | str y =>
    obtain ⟨hz, k1⟩ := Post.iteM k1
    simp only [Rep] at hx
    subst hx
    exact ⟨y, rfl, hz, hr.so r1 s H1 env st1 _ _ (E.step t1) R1 k1⟩
  | _ => exact k1.elim
theorem se_joined {v1 v2 : Expr} {rest : List Expr} {ts : List TE} {ds : Str → PEnv → M Str} {pos : Pos} (h : SJ X W (v1 :: v2 :: rest) ts ds) : SE X W (.JoinedStr (v1 :: v2 :: rest) pos) (fun σ H Q => tJs ts Str.empty σ H fun out H1 => Q (.str out) H1) (jsD ds) :=
  ⟨pe_joined h.pj, fun r s H env st Q E R k => h.so r s H env st _ _ E R (k.bind.imp fun x st1 r1 H1 t1 R1 k1 => k1 r1 H1 Step.refl R1 _ rep_str)⟩
/-! ### raise of an own exception with one argument, whose value is not kept -/
section
variable {C : Addr} {bmB : List Value} {B newId initId : String}
theorem made1 {x : Str} {e : Expr} {te : TE} {p pos : Pos} (F : ExcBaseFacts B newId initId bmB) (hq : PySem.W.excIn X.K C bmB newId = true) (hm : X.mg x = some (.ref C)) (hk : PySem.W.keepIn X.K (.ref C) = true) (hr : Raises X (.ref C))
    (he : PE X e te) (hg : Gl X x := by rfl) (hs : starEach [e] X.env = (false, eval e X.env) :: starEach [] X.env := by rfl) (hd : (x == ("__debug__" : Str)) = false := by decide) :
    L2N.PMk X (.Call (.Name x p) [e] [] pos) (fun σ H Q => te σ H fun _ H1 => Q (.ref C) none H1) := fun pins s σ H Q I h => by
  apply wpAny_Call_Name_kw
  apply ld_glob I hg hm _ hd
  apply PySem.W.callWith_K (h₀ := X.base) I.ok.mod.kin hk _ hs (by rfl)
  simp only [hs]
  show wpAny _ _ (spliced (_ :: backTo pos (starEach [] X.env))) _ _ s
  apply Calls.spliced_cons
  apply thn (he.run pins s σ H _ I h)
  rintro u s1 ⟨v, H1, I1, r1, q1⟩
  apply Calls.spliced_nil
  refine ⟨I1.kIn, ?_⟩
  have hx := exc_obj I1.kIn hq
  obtain ⟨a1, a2, a3, a4, a5, a6, a7, a8, a9, a10, a11, a12, a13, a14, a15, a16, a17, g1, g2, g3, g4⟩ := hx
  change wpAny _ _ (PySem.call (.ref C) [u]) _ _ _
  apply wpAny_call_exc_subT F g4 g1 g2 g3
  intro h' e' hm'
  exact L2N.mk_of I1 hm' hr q1 (I1.hok.gone hm'.new)
end
/-- raise x(e) -/
def rsD (x : Str) (d : DE) : DS := fun env st => (tagE env (d env st)).bind fun _ st => .exc ⟨x, [], []⟩ env st
theorem ss_raise1 {C : Addr} {bmB : List Value} {B newId initId : String} {x : Str} {e : Expr} {te : TE} {d : DE} {p pos pos' : Pos} (hc : X.calm = true) (tk : L2N.Takes X W) (F : ExcBaseFacts B newId initId bmB) (hq : PySem.W.excIn X.K C bmB newId = true) (hm : X.mg x = some (.ref C)) (hk : PySem.W.keepIn X.K (.ref C) = true) (hr : Raises X (.ref C))
    (he : SE X W e te d) (hg : Gl X x := by rfl) (hs : starEach [e] X.env = (false, eval e X.env) :: starEach [] X.env := by rfl) (hd : (x == ("__debug__" : Str)) = false := by decide) :
    SS X W (.Raise (some (.Call (.Name x p) [e] [] pos)) none pos') (fun _ σ H => te σ H fun _ H1 => W (.ref C) none σ H1) (rsD x d) := by
  refine ⟨L2N.ps_raise hc tk (made1 F hq hm hk hr he.pe hg hs hd), fun r s H env st D E R h => ?_⟩
  refine he.so r s H env st _ E R ((PostS.bind E h).imp fun p st1 r1 H1 t1 R1 h1 v hv => ?_)
  exact h1 r1 H1 s (.ref C) none Step.refl R1 (E.step t1) ⟨C, hm, rfl, .inl ⟨rfl, rfl⟩⟩
end CD

set_option Elab.async false
set_option linter.all false
set_option maxRecDepth 100000
set_option maxHeartbeats 2000000
namespace CD
open PySem PySem.Spec PyProof.Rows L2 RZ StX ClX
variable {X : Cx} {W : WX}
/-! ### dicts whose keys are ints and texts -/
def keyOf : PV → Option Key
  | .int i => some (.inl i)
  | .str x => some (.inr x)
  | _ => none
def kP : Key → PV
  | .inl i => .int i
  | .inr x => .str x
theorem keyOf_ok {G : GC} {r : Loc} {H : Hp} {p : PV} {v : V} {k : Key} (q : Rep G r H p v) (h : keyOf p = some k) : v = kV k := by
  cases p with
  | int i => cases h; simp only [Rep] at q; exact q
  | str x => cases h; simp only [Rep] at q; exact q
  | _ => cases h
theorem rep_kP {G : GC} {r : Loc} {H : Hp} (k : Key) : Rep G r H (kP k) (kV k) := by
  cases k <;> simp only [kP, kV, Rep]
def dctOf (st : Store) : PV → Option (List Key × List PV)
  | .dct _ ks xs => some (ks, xs)
  | .loc l => match st[l]? with
    | some (.dct ks xs) => some (ks, xs)
    | _ => none
  | _ => none
theorem dctOf_ok {G : GC} {r : Loc} {H : Hp} {st : Store} {p : PV} {v : V} {ks : List Key} {xs : List PV} (R : SRel G r H st) (k : Rep G r H p v) (h : dctOf st p = some (ks, xs)) :
    ∃ a vs, v = .ref a ∧ Rd H a (.dK (ks.zip vs)) ∧ ks.length = xs.length ∧ RepL G r H xs vs := by
  cases p with
  | dct lk ks' xs' =>
    cases h
    simp only [Rep] at k
    obtain ⟨a, vs, e, f, z, _, l⟩ := k
    exact ⟨a, vs, e, f.rd, z, l⟩
  | loc l =>
    simp only [dctOf] at h
    split at h
    · rename_i ks' xs' hl
      cases h
      obtain ⟨a, e, _, vs, q, z, l⟩ := loc_ok R k hl rfl
      exact ⟨a, vs, e, .inl q, z, l⟩
    · cases h
  | _ => cases h
def lookD : List Key → List PV → Key → Option PV
  | k :: ks, x :: xs, j => if k = j then some x else lookD ks xs j
  | _, _, _ => none
theorem lookD_ok {G : GC} {r : Loc} {H : Hp} : ∀ {ks : List Key} {xs : List PV} {vs : List V} {j : Key}, ks.length = xs.length → RepL G r H xs vs →
    (∀ x, lookD ks xs j = some x → ∃ v, valV (ks.zip vs) j = some v ∧ Rep G r H x v) ∧ (lookD ks xs j = none → valV (ks.zip vs) j = none)
  | [], xs, vs, j, hl, l => ⟨fun x h => by simp [lookD] at h, fun _ => rfl⟩
  | k :: ks, [], vs, j, hl, l => by simp at hl
  | k :: ks, y :: xs, vs, j, hl, l => by
    simp only [RepL] at l
    obtain ⟨w, ws, rfl, a, b⟩ := l
    obtain ⟨h1, h2⟩ := lookD_ok (j := j) (by simpa using hl) b
    by_cases e : k = j
    · refine ⟨fun x h => ?_, fun h => ?_⟩
      · simp only [lookD, if_pos e] at h
        cases h
        exact ⟨w, valV_pos (p := (k, w)) e, a⟩
      · simp only [lookD, if_pos e] at h
        cases h
    · refine ⟨fun x h => ?_, fun h => ?_⟩
      · simp only [lookD, if_neg e] at h
        obtain ⟨v, h3, h4⟩ := h1 x h
        exact ⟨v, (valV_neg (p := (k, w)) e).trans h3, h4⟩
      · simp only [lookD, if_neg e] at h
        exact (valV_neg (p := (k, w)) e).trans (h2 h)
/-- {} as a place -/
def dNewM : DE := fun _ st => .ok (.loc st.length) (st ++ [.dct [] []])
theorem dalloc_ok {G : GC} {E : Value → Option Addr → Hp → Prop} {r : Loc} {H : Hp} {st : Store} {ks : List Key} {xs : List PV} {vs : List V} {Q : VK} (R : SRel G r H st) (hl : ks.length = xs.length) (l : RepL G r H xs vs)
    (h : Post G E r H (Res.ok (PV.loc st.length) (st ++ [.dct ks xs])) (okE G Q)) : ∀ p, H p = none → Q (.ref p) (upd H p (.dK (ks.zip vs))) := fun p n => by
  have R' := R.alloc (c := .dct ks xs) (o := .dK (ks.zip vs)) n ⟨vs, upd_same, hl, RepL.step (Step.more n) _ _ l⟩
  refine h _ _ (Step.more n) R' _ ?_
  simp only [Rep]
  refine ⟨by rw [← R.len]; simp [Loc.more], fun a e => ?_⟩
  rw [← R.len] at e
  simp [Loc.more] at e; rw [e]
theorem se_dnewM {pos : Pos} : SE X W (.Dict [] [] pos) tDNewK dNewM := ⟨pe_dnewK, fun r s H env st Q E R h => dalloc_ok (ks := []) (xs := []) R rfl RepL.nil h⟩
/-- {} as a value -/
def dNewV : DE := fun _ st => .ok (.dct false [] []) st
theorem se_dnewV {pos : Pos} : SE X W (.Dict [] [] pos) tDNewK dNewV := ⟨pe_dnewK, fun r s H env st Q E R h p n => h r _ (Step.new1 n) (R.new1 n) _ (by
  simp only [Rep]
  exact ⟨p, [], rfl, upd_same, rfl, R.freshA n, RepL.nil⟩)⟩
/-- {i: j} as a place -/
def dNew1 (i j : Int) : DE := fun _ st => .ok (.loc st.length) (st ++ [.dct [.inl i] [.int j]])
theorem se_dnew1 {i j : Int} {a b} {p1 p2 pos : Pos} : SE X W (.Dict [some (.Constant (.int i) a p1)] [.Constant (.int j) b p2] pos) (tDisp [(tC (.int i), tC (.int j))]) (dNew1 i j) := by
  refine ⟨pe_disp (pps_cons pe_int pe_int pps_nil) rfl rfl (by simp) (by simp), fun r s H env st Q E R h p n => ?_⟩
  refine ⟨upd_same, [(.inl i, .int j)], rfl, by simp, ?_⟩
  rw [upd_upd]
  exact dalloc_ok (ks := [.inl i]) (xs := [.int j]) (vs := [.int j]) R rfl (RepL.cons rep_int RepL.nil) h p n
/-- d[k] -/
def dgetD (d k : DE) : DE := fun env st => (d env st).bind fun p st => (k env st).bind fun q st => match dctOf st p, keyOf q with
  | some (ks, xs), some j => match lookD ks xs j with
    | some v => .ok v st
    | none => .stuck
  | _, _ => .stuck
theorem se_dget {k : Nat} {o i : Expr} {td ty : TE} {d e : DE} {pos : Pos} (hr : Room k X.A) (ho : SE X W o td d) (hi : SE X W i ty e) (hs : NoSl i := by intro _ _; rfl) : SE X W (.Subscript o i pos) (tDGet td ty) (dgetD d e) := by
  refine ⟨pe_dget (by have := hr.units; omega) ho.pe hi.pe hs, fun r s H env st Q E R h => ?_⟩
  refine ho.so r s H env st _ E R (h.bind.imp fun p st1 r1 H1 t1 R1 h1 x hx => ?_)
  refine hi.so r1 s H1 env st1 _ (E.step t1) R1 (h1.bind.imp fun q st2 r2 H2 t2 R2 h2 y hy => ?_)
  split at h2
  · rename_i ks xs j hd hk
    split at h2
    · rename_i v hv
      obtain ⟨a, vs, rfl, rd, hl, l⟩ := dctOf_ok R2 (Rep.step t2 _ _ hx) hd
      obtain ⟨w, hw, kw⟩ := (lookD_ok hl l).1 v hv
      exact ⟨a, w, rfl, .inl ⟨_, j, rd, keyOf_ok hy hk, hw.symm⟩, h2 r2 H2 Step.refl R2 _ kw⟩
    · exact h2.elim
  · exact h2.elim
/-- d.get(k, z) -/
def dget2D (d k z : DE) : DE := fun env st => (d env st).bind fun p st => if (dctOf st p).isSome = true then (k env st).bind fun q st => (z env st).bind fun y st => match dctOf st p, keyOf q with
  | some (ks, xs), some j => .ok ((lookD ks xs j).getD y) st
  | _, _ => .stuck
  else .stuck
theorem isD_ok {G : GC} {r : Loc} {H : Hp} {st : Store} {p : PV} {v : V} (R : SRel G r H st) (k : Rep G r H p v) (h : (dctOf st p).isSome = true) : ∃ a, v = .ref a ∧ IsD H a := by
  obtain ⟨⟨ks, xs⟩, hd⟩ := Option.isSome_iff_exists.mp h
  obtain ⟨a, vs, e, rd, _, _⟩ := dctOf_ok R k hd
  exact ⟨a, e, .inl ⟨_, rd⟩⟩
theorem se_dget2 {k : Nat} {o e f : Expr} {td ty tx : TE} {d dk dz : DE} {apos cpos : Pos} (hr : Room k X.A) (ho : SE X W o td d) (he : SE X W e ty dk) (hf : SE X W f tx dz) (m : M2 X o "get" apos e f cpos := by exact ⟨rfl, rfl, rfl, rfl⟩) :
    SE X W (.Call (.Attribute o "get" apos) [e, f] [] cpos) (tDGet2 td ty tx) (dget2D d dk dz) := by
  refine ⟨pe_dget2 (by have := hr.units; omega) ho.pe he.pe hf.pe m, fun r s H env st Q E R h => ?_⟩
  refine ho.so r s H env st _ E R (h.bind.imp fun p st1 r1 H1 t1 R1 h1 x hx => ?_)
  split at h1
  · rename_i hc
    obtain ⟨a, rfl, isd⟩ := isD_ok R1 hx hc
    refine ⟨a, rfl, isd, he.so r1 s H1 env st1 _ (E.step t1) R1 (h1.bind.imp fun q st2 r2 H2 t2 R2 h2 y hy => ?_)⟩
    refine hf.so r2 s H2 env st2 _ ((E.step t1).step t2) R2 (h2.bind.imp fun u st3 r3 H3 t3 R3 h3 z hz => ?_)
    split at h3
    · rename_i ks xs j hd hk
      obtain ⟨a', vs, e', rd, hl, l⟩ := dctOf_ok R3 (Rep.step (t2.trans t3) _ _ hx) hd
      cases e'
      refine ⟨valV (ks.zip vs) j, .inl ⟨_, j, rd, keyOf_ok hy hk, rfl⟩, ?_⟩
      have hh := lookD_ok (j := j) hl l
      cases q2 : lookD ks xs j with
      | none =>
        rw [q2] at h3
        rw [hh.2 q2]
        exact h3 r3 H3 Step.refl R3 _ hz
      | some w =>
        rw [q2] at h3
        obtain ⟨v, hv, kv⟩ := hh.1 w q2
        rw [hv]
        exact h3 r3 H3 Step.refl R3 _ kv
    · exact h3.elim
  · exact h1.elim
/-- k in d -/
def dinD (neg : Bool) (k d : DE) : DE := fun env st => (k env st).bind fun q st => (d env st).bind fun p st => match dctOf st p, keyOf q with
  | some (ks, xs), some j => .ok (.bl ((lookD ks xs j).isSome != neg)) st
  | _, _ => .stuck
theorem din_so {o i : Expr} {td ty : TE} {d e : DE} {neg : Bool} (hi : SE X W i ty e) (ho : SE X W o td d) : ∀ r s H env st Q, EnvR (gc X) r H s env → SRel (gc X) r H st → Post (gc X) (fun c d H => W c d s H) r H (dinD neg e d env st) (okE (gc X) Q) →
    ty s H fun y H1 => td s H1 fun x H2 => ∃ a o, x = .ref a ∧ DGet H2 a y o ∧ Q (.bl (o.isSome != neg)) H2 := by
  intro r s H env st Q E R h
  refine hi.so r s H env st _ E R (h.bind.imp fun q st1 r1 H1 t1 R1 h1 y hy => ?_)
  refine ho.so r1 s H1 env st1 _ (E.step t1) R1 (h1.bind.imp fun p st2 r2 H2 t2 R2 h2 x hx => ?_)
  split at h2
  · rename_i ks xs j hd hk
    obtain ⟨a, vs, rfl, rd, hl, l⟩ := dctOf_ok R2 hx hd
    refine ⟨a, valV (ks.zip vs) j, rfl, .inl ⟨_, j, rd, keyOf_ok hy hk, rfl⟩, ?_⟩
    have hh := lookD_ok (j := j) hl l
    have e : (valV (ks.zip vs) j).isSome = (lookD ks xs j).isSome := by
      cases q2 : lookD ks xs j with
      | none => rw [hh.2 q2] <;> rfl
      | some w => obtain ⟨v, hv, _⟩ := hh.1 w q2; rw [hv] <;> rfl
    rw [e]
    exact h2 r2 H2 Step.refl R2 _ rep_bl
  · exact h2.elim
theorem se_din {k : Nat} {o i : Expr} {td ty : TE} {d e : DE} {pos : Pos} (hr : Room k X.A) (hi : SE X W i ty e) (ho : SE X W o td d) (hm : behindInMarks .In o = false := by rfl) : SE X W (.Compare i [.In] [o] pos) (tDIn ty td) (dinD false e d) :=
  ⟨pe_cmp (pc_din (by have := hr.units; omega) hi.pe ho.pe) hm, fun r s H env st Q E R h => by
    have z := din_so (neg := false) hi ho r s H env st Q E R h
    simp only [Bool.bne_false] at z
    exact z⟩
theorem sb_din {k : Nat} {o i : Expr} {td ty : TE} {d e : DE} {pos : Pos} (hr : Room k X.A) (hi : SE X W i ty e) (ho : SE X W o td d) (hm : behindInMarks .In o = false := by rfl) : SB X W (.Compare i [.In] [o] pos) (tB (tDIn ty td)) (dB (dinD false e d)) :=
  ⟨pt_cmp (pc_din (by have := hr.units; omega) hi.pe ho.pe) hm, fun r s H env st Q E R h => (se_din (pos := pos) hr hi ho hm).so r s H env st _ E R (h.bind.imp fun p st1 r1 H1 t1 R1 h1 x hx => h1.toB R1 hx)⟩
theorem se_dnotin {k : Nat} {o i : Expr} {td ty : TE} {d e : DE} {pos : Pos} (hr : Room k X.A) (hi : SE X W i ty e) (ho : SE X W o td d) (hm : behindInMarks .NotIn o = false := by rfl) : SE X W (.Compare i [.NotIn] [o] pos) (tDNotIn ty td) (dinD true e d) :=
  ⟨pe_cmp (pc_dnotin (by have := hr.units; omega) hi.pe ho.pe) hm, fun r s H env st Q E R h => by
    have z := din_so (neg := true) hi ho r s H env st Q E R h
    simp only [Bool.bne_true] at z
    exact z⟩
theorem sb_dnotin {k : Nat} {o i : Expr} {td ty : TE} {d e : DE} {pos : Pos} (hr : Room k X.A) (hi : SE X W i ty e) (ho : SE X W o td d) (hm : behindInMarks .NotIn o = false := by rfl) : SB X W (.Compare i [.NotIn] [o] pos) (tB (tDNotIn ty td)) (dB (dinD true e d)) :=
  ⟨pt_cmp (pc_dnotin (by have := hr.units; omega) hi.pe ho.pe) hm, fun r s H env st Q E R h => (se_dnotin (pos := pos) hr hi ho hm).so r s H env st _ E R (h.bind.imp fun p st1 r1 H1 t1 R1 h1 x hx => h1.toB R1 hx)⟩
/-- d[k] = v -/
def setK {α : Type} : List Key → List α → Key → α → List α
  | k :: ks, x :: xs, j, y => (if k = j then y else x) :: setK ks xs j y
  | _, xs, _, _ => xs
theorem setK_len {α : Type} : ∀ {ks : List Key} {xs : List α} {j : Key} {y : α}, (setK ks xs j y).length = xs.length
  | [], xs, _, _ => by cases xs <;> rfl
  | _ :: _, [], _, _ => rfl
  | k :: ks, x :: xs, j, y => by simp [setK, setK_len (ks := ks) (xs := xs)]
theorem setK_zip : ∀ {ks : List Key} {vs : List V} {j : Key} {w : V}, ks.zip (setK ks vs j w) = (ks.zip vs).map fun kv => if kv.1 = j then (kv.1, w) else kv
  | [], vs, _, _ => by simp
  | _ :: _, [], _, _ => rfl
  | k :: ks, v :: vs, j, w => by
    simp only [setK, List.zip_cons_cons, List.map_cons, setK_zip (ks := ks) (vs := vs)]
    by_cases e : k = j <;> simp [e]
theorem setK_rep {G : GC} {r : Loc} {H : Hp} {j : Key} {y : PV} {w : V} (kw : Rep G r H y w) : ∀ {ks : List Key} {xs : List PV} {vs : List V}, RepL G r H xs vs → RepL G r H (setK ks xs j y) (setK ks vs j w)
  | [], xs, vs, l => by
    cases xs with
    | nil => simp only [RepL] at l; subst l; exact RepL.nil
    | cons x xs => simp only [RepL] at l; obtain ⟨v, ws, rfl, a, b⟩ := l; exact RepL.cons a b
  | k :: ks, [], vs, l => by simp only [RepL] at l; subst l; exact RepL.nil
  | k :: ks, x :: xs, vs, l => by
    simp only [RepL] at l
    obtain ⟨v, ws, rfl, a, b⟩ := l
    simp only [setK]
    refine RepL.cons ?_ (setK_rep kw b)
    by_cases e : k = j
    · rw [if_pos e, if_pos e]; exact kw
    · rw [if_neg e, if_neg e]; exact a
/-- the keys and values behind a store -/
def hasK (ks : List Key) (j : Key) : Bool := ks.any fun k => decide (k = j)
def putD (ks : List Key) (xs : List PV) (j : Key) (y : PV) : List Key × List PV := if hasK ks j = true then (ks, setK ks xs j y) else (ks ++ [j], xs ++ [y])
theorem zip_any {vs : List V} {j : Key} : ∀ {ks : List Key}, ks.length = vs.length → ((ks.zip vs).any fun kv => decide (kv.1 = j)) = hasK ks j := by
  induction vs with
  | nil => intro ks h; cases ks with
    | nil => rfl
    | cons _ _ => simp at h
  | cons v vs ih => intro ks h; cases ks with
    | nil => simp at h
    | cons k ks =>
      simp only [List.zip_cons_cons, List.any_cons, hasK]
      rw [ih (by simpa using h)]; rfl
theorem putD_ok {G : GC} {r : Loc} {H : Hp} {ks : List Key} {xs : List PV} {vs : List V} {j : Key} {y : PV} {w : V} (kw : Rep G r H y w) (hl : ks.length = xs.length) (l : RepL G r H xs vs) :
    ∃ ws, putK (ks.zip vs) j w = (putD ks xs j y).1.zip ws ∧ RepL G r H (putD ks xs j y).2 ws ∧ (putD ks xs j y).1.length = (putD ks xs j y).2.length := by
  have hv : ks.length = vs.length := hl.trans l.len
  unfold putD putK
  rw [zip_any hv]
  by_cases e : hasK ks j = true
  · rw [if_pos e, if_pos e]
    exact ⟨setK ks vs j w, by rw [setK_zip], setK_rep kw l, by simp only [setK_len]; exact hl⟩
  · rw [if_neg e, if_neg e]
    refine ⟨vs ++ [w], ?_, l.append (RepL.cons kw RepL.nil), by simp [hl]⟩
    rw [List.zip_append hv]; rfl
def dputD (d k v : DE) : DS := fun env st => (tagE env (v env st)).bind fun y st => (tagE env (d env st)).bind fun p st => (tagE env (k env st)).bind fun q st => match p, keyOf q with
  | .loc l, some j => match st[l]? with
    | some (.dct ks xs) => if ks.length < 1000000 then .ok (.nx env) (st.set l (.dct (putD ks xs j y).1 (putD ks xs j y).2)) else .stuck
    | _ => .stuck
  | _, _ => .stuck
theorem ss_dput {n : Nat} {o i value : Expr} {td ty tv : TE} {d dk dv : DE} {pos pos' : Pos} (hr : Room n X.A) (ho : SE X W o td d) (hi : SE X W i ty dk) (hv : SE X W value tv dv) (hs : swapsWith value (some (.Subscript o i pos')) pos.line X.env = pure false := by rfl) :
    SS X W (.Assign [.Subscript o i pos'] value pos) (sDPut td ty tv) (dputD d dk dv) := by
  refine ⟨ps_dput (by have := hr.units; omega) ho.pe hi.pe hv.pe hs, fun r s H env st D E R h => ?_⟩
  refine hv.so r s H env st _ E R ((PostS.bind E h).imp fun y st1 r1 H1 t1 R1 h1 w hw => ?_)
  have E1 := E.step t1
  refine ho.so r1 s H1 env st1 _ E1 R1 ((PostS.bind E1 h1).imp fun p st2 r2 H2 t2 R2 h2 x hx => ?_)
  have E2 := E1.step t2
  refine hi.so r2 s H2 env st2 _ E2 R2 ((PostS.bind E2 h2).imp fun q st3 r3 H3 t3 R3 h3 u hu => ?_)
  have E3 := E2.step t3
  split at h3
  · rename_i l j hk
    split at h3
    · rename_i ks xs hl
      split at h3
      · rename_i hn
        obtain ⟨a, rfl, ha, vs, ea, z, lr⟩ := loc_ok R3 (Rep.step t3 _ _ hx) hl rfl
        obtain ⟨ws, e1, l2, l3⟩ := putD_ok (j := j) (Rep.step (t2.trans t3) _ _ hw) z lr
        have hsz := sizeLine_eq
        refine ⟨a, upd H3 a (.dK (putK (ks.zip vs) j w)), rfl, .inl ⟨_, j, ea, keyOf_ok hu hk, by rw [List.length_zip]; omega, rfl⟩, ?_⟩
        rw [e1]
        have S : Step r3 H3 r3 (upd H3 a (.dK ((putD ks xs j y).1.zip ws))) := by
          refine ⟨fun b u n e => ?_, fun b e => ?_, Nat.le_refl _, fun _ _ _ h => h, fun l a h e => absurd (lt_of_get e) (Nat.not_lt.mpr h), rfl⟩
          · rw [upd_ne (fun z => n (by subst z; exact live_at.mpr ⟨l, ha⟩))]; exact e
          · unfold upd; split
            · exact fun y => by cases y
            · exact e
        obtain ⟨S', R'⟩ := R3.write (c := .dct (putD ks xs j y).1 (putD ks xs j y).2) ha ⟨ws, upd_same, l3, RepL.step S _ _ l2⟩
        exact h3 r3 _ s S' R' (E3.step S')
      · exact h3.elim
    · exact h3.elim
  · exact h3.elim
/-! ### a dict is locked for good: it is read from here on -/
def tLkP (t : TS) : TS := fun D σ H => ∃ d u, H d = some u ∧ Mut (some u) ∧ ∀ od, t D σ (upd H d (.frz od u))
theorem pss_lkP {st : List Stmt} {t : TS} (h : PSs X st t) : PSs X st (tLkP t) := by
  refine ⟨fun pins s σ H D I hw => ?_⟩
  obtain ⟨d, u, hd, mu, hw⟩ := hw
  obtain ⟨od, I1⟩ := I.lock hd mu
  exact h.run pins s σ _ _ I1 (hw od)
def lckD (i : Nat) (d : DS) : DS := fun env st => match env[i]? with
  | some (some (.loc l)) => match st[l]? with
    | some (.dct ks xs) => d (env.set i (some (.dct true ks xs))) (st.set l .dead)
    | _ => .stuck
  | _ => .stuck
theorem ss_lck {st : List Stmt} {t : TS} {d : DS} (i : Nat) (h : SSs X W st t d) : SSs X W st (tLkP t) (lckD i d) := by
  refine ⟨pss_lkP h.pss, fun r s H env sto D E R post => ?_⟩
  unfold lckD at post
  split at post
  · rename_i l he
    split at post
    · rename_i ks xs hs
      obtain ⟨v, hv, k⟩ := E.2 i _ he
      obtain ⟨a, rfl, ha, vs, ea, hlen, z⟩ := loc_ok R k hs rfl
      refine ⟨a, _, ea, trivial, fun od => ?_⟩
      have S : Step r H (r.kill l) (upd H a (.frz od (.dK (ks.zip vs)))) := by
        refine ⟨fun b u n e => ?_, fun b e => ?_, by simp [Loc.kill], fun l' a _ e => (kill_at e).2, fun l' a h e => absurd (lt_of_get (kill_at e).2) (Nat.not_lt.mpr h), rfl⟩
        · rw [upd_ne (fun z => n (by subst z; exact live_at.mpr ⟨l, ha⟩))]; exact e
        · unfold upd; split
          · exact fun y => by cases y
          · exact e
      have nav : ¬ av (r.kill l) a := fun y => by
        rcases y with y | y
        · obtain ⟨l', e'⟩ := live_at.mp y
          exact (kill_at e').1 (R.inj l' l a (kill_at e').2 ha)
        · exact R.dis a (live_at.mpr ⟨l, ha⟩) y
      have R1 : SRel (gc X) (r.kill l) (upd H a (.frz od (.dK (ks.zip vs)))) (sto.set l .dead) := by
        have R0 := R.kill (l := l)
        refine ⟨R0.len, fun l' b e => ?_, R0.has, R0.inj, fun b m => S.there b (R.hd b m), R0.dis⟩
        obtain ⟨n, e'⟩ := kill_at e
        obtain ⟨c, e1, k'⟩ := R.at_ l' b e'
        refine ⟨c, by rw [List.getElem?_set_ne (Ne.symm n)]; exact e1, k'.step S (upd_ne fun z => n (R.inj l' l a (by rw [← z]; exact e') ha))⟩
      refine h.so (r.kill l) s _ _ _ D ?_ R1 (PostS.mono S post)
      have E2 : EnvR (gc X) (r.kill l) (upd H a (.frz od (.dK (ks.zip vs)))) s env := E.step S
      refine ⟨by rw [E.1]; simp, fun j q hj => ?_⟩
      rw [List.getElem?_set] at hj
      split at hj
      · rename_i hij
        subst hij
        split at hj
        · cases hj
          refine ⟨_, hv, ?_⟩
          simp only [Rep]
          exact ⟨a, vs, rfl, ⟨od, upd_same⟩, hlen, nav, RepL.step S _ _ z⟩
        · cases hj
      · exact E2.2 j q hj
    · exact post.elim
  · exact post.elim
/-- the keys of a locked dict -/
def keysD (d : DE) : PEnv → M (List PV) := fun env st => (d env st).bind fun p st => match p with
  | .dct true ks _ => .ok (ks.map kP) st
  | _ => .stuck
theorem si_keys {tg e : Expr} {td : TE} {d : DE} (h : SE X W e td d) : SI X W tg e (iKeys td) (keysD d) := by
  refine ⟨pi_keys h.pe, fun r s H env st R E Rl q => ?_⟩
  refine h.so r s H env st _ E Rl (q.bind.imp fun p st1 r1 H1 t1 R1 h1 v hv => ?_)
  split at h1
  · rename_i ks xs
    simp only [Rep] at hv
    obtain ⟨a, vs, rfl, ⟨o, ea⟩, hl, n, l⟩ := hv
    have hz : ks.length = vs.length := hl.trans l.len
    refine ⟨a, o, rfl, .inl ⟨_, ea, h1 r1 H1 Step.refl R1 _ ?_⟩⟩
    have hlen : (ks.zip vs).length = (ks.map kP).length := by simp [hz]
    refine ⟨fun H' => H' a = some (.frz o (.dK (ks.zip vs))), fun i H x H' => H' = H ∧ ∃ k v, (ks.zip vs)[i]? = some (k, v) ∧ x = kV k, ⟨fun i H' hi q => ⟨q, by rw [hlen]; exact hi⟩, fun H' q => ⟨q, by rw [hlen] <;> exact Nat.le_refl _⟩, fun i H x H' _ _ y => y⟩, fun r' H' e => e.keep a _ n ea, fun i r2 H2 st2 v H3 p e R2 y hp => ?_⟩
    obtain ⟨rfl, k, w, hk, rfl⟩ := y
    refine ⟨fun _ _ h => h, ?_⟩
    rw [List.getElem?_map] at hp
    rw [List.zip, List.getElem?_zipWith] at hk
    cases q1 : ks[i]? with
    | none => rw [q1] at hk; cases hk
    | some k' =>
      rw [q1] at hk hp
      cases q2 : vs[i]? with
      | none => rw [q2] at hk; cases hk
      | some v' => rw [q2] at hk; cases hk; cases hp; exact rep_kP _
  · exact h1.elim
/-! ### list(range(n)) and tuple(range(n)) as values -/
def rgF (n : Int) : List PV := (List.range n.toNat).map fun i => .int (i : Nat)
def lrgVD (d : DE) : DE := fun env st => (d env st).bind fun p st => match p with
  | .int n => if 0 ≤ n ∧ n ≤ 10000 then .ok (.lst (rgF n)) st else .stuck
  | _ => .stuck
def trgVD (d : DE) : DE := fun env st => (d env st).bind fun p st => match p with
  | .int n => if 0 ≤ n ∧ n ≤ 10000 then .ok (.tup (rgF n)) st else .stuck
  | _ => .stuck
theorem se_listRgV {a : Expr} {ta : TE} {d : DE} {p pos p2 pos2 : Pos} (hc : X.calm = true) (hg : Gl X "list") (hm : X.mg "list" = none) (hg2 : Gl X "range") (hm2 : X.mg "range" = none) (ha : SE X W a ta d)
    (na : starEach [.Call (.Name "range" p2) [a] [] pos2] X.env = (false, eval (.Call (.Name "range" p2) [a] [] pos2) X.env) :: starEach [] X.env := by rfl) (na2 : starEach [a] X.env = (false, eval a X.env) :: starEach [] X.env := by rfl) :
    SE X W (.Call (.Name "list" p) [.Call (.Name "range" p2) [a] [] pos2] [] pos) (tLstRg (tRg1 ta)) (lrgVD d) := by
  refine ⟨pe_listRg hc hg hm (prg_1 hg2 hm2 ha.pe na2) na, fun r s H env st Q E R h => ha.so r s H env st _ E R (h.bind.imp fun p st1 r1 H1 t1 R1 h1 x hx => ?_)⟩
  split at h1
  · rename_i n
    split at h1
    · rename_i hn
      simp only [Rep] at hx
      exact ⟨n, hx, RgOk.of_le (Int.le_refl 0) (by omega) (by omega) hn.1, fun q nq => h1 r1 _ (Step.new1 nq) (R1.new1 nq) _ (Rep.newLst R1 nq rgV_rep)⟩
    · exact h1.elim
  · exact h1.elim
theorem se_tupRgV {a : Expr} {ta : TE} {d : DE} {p pos p2 pos2 : Pos} (hc : X.calm = true) (hg : Gl X "tuple") (hm : X.mg "tuple" = none) (hg2 : Gl X "range") (hm2 : X.mg "range" = none) (ha : SE X W a ta d)
    (na : starEach [.Call (.Name "range" p2) [a] [] pos2] X.env = (false, eval (.Call (.Name "range" p2) [a] [] pos2) X.env) :: starEach [] X.env := by rfl) (na2 : starEach [a] X.env = (false, eval a X.env) :: starEach [] X.env := by rfl) :
    SE X W (.Call (.Name "tuple" p) [.Call (.Name "range" p2) [a] [] pos2] [] pos) (tTupRg (tRg1 ta)) (trgVD d) := by
  refine ⟨pe_tupRg hc hg hm (prg_1 hg2 hm2 ha.pe na2) na, fun r s H env st Q E R h => ha.so r s H env st _ E R (h.bind.imp fun p st1 r1 H1 t1 R1 h1 x hx => ?_)⟩
  split at h1
  · rename_i n
    split at h1
    · rename_i hn
      simp only [Rep] at hx
      exact ⟨n, hx, RgOk.of_le (Int.le_refl 0) (by omega) (by omega) hn.1, fun q nq => h1 r1 _ (Step.new1 nq) (R1.new1 nq) _ (Rep.newTup R1 nq rgV_rep)⟩
    · exact h1.elim
  · exact h1.elim
theorem ev_lrgV {d : DE} {env : PEnv} {st : Store} {n : Int} (h : d env st = .ok (.int n) st) (h0 : 0 ≤ n ∧ n ≤ 10000) : lrgVD d env st = .ok (.lst (rgF n)) st := by
  unfold lrgVD; rw [h, Res.bind_ok]; simp only [if_pos h0]
theorem ev_trgV {d : DE} {env : PEnv} {st : Store} {n : Int} (h : d env st = .ok (.int n) st) (h0 : 0 ≤ n ∧ n ≤ 10000) : trgVD d env st = .ok (.tup (rgF n)) st := by
  unfold trgVD; rw [h, Res.bind_ok]; simp only [if_pos h0]
/-! ### by values -/
theorem ev_dget2 {d k z : DE} {env : PEnv} {st : Store} {p q y : PV} {ks : List Key} {xs : List PV} {j : Key} (h1 : d env st = .ok p st) (h2 : k env st = .ok q st) (h3 : z env st = .ok y st) (hd : dctOf st p = some (ks, xs)) (hk : keyOf q = some j) :
    dget2D d k z env st = .ok ((lookD ks xs j).getD y) st := by
  unfold dget2D; rw [h1, Res.bind_ok, if_pos (by rw [hd] <;> rfl), h2, Res.bind_ok, h3, Res.bind_ok, hd, hk]
theorem ev_dget {d k : DE} {env : PEnv} {st : Store} {p q v : PV} {ks : List Key} {xs : List PV} {j : Key} (h1 : d env st = .ok p st) (h2 : k env st = .ok q st) (hd : dctOf st p = some (ks, xs)) (hk : keyOf q = some j) (hv : lookD ks xs j = some v) :
    dgetD d k env st = .ok v st := by
  unfold dgetD; rw [h1, Res.bind_ok, h2, Res.bind_ok, hd, hk]; simp only [hv]
theorem dput_ok {d k v : DE} {e : DS} {env : PEnv} {st : Store} {y q : PV} {l : Nat} {ks : List Key} {xs : List PV} {j : Key} {P : Flow → Store → Prop} (h1 : v env st = .ok y st) (h2 : d env st = .ok (.loc l) st) (h3 : k env st = .ok q st) (hk : keyOf q = some j) (hl : st[l]? = some (.dct ks xs)) (hn : ks.length < 1000000)
    (h : Ok (e env (st.set l (.dct (putD ks xs j y).1 (putD ks xs j y).2))) P) : Ok (seqD (dputD d k v) e env st) P := by
  refine Ok.eq ?_ h
  unfold seqD dputD
  rw [h1]; simp only [tagE, Res.bind]; rw [h2]; simp only [tagE, Res.bind]; rw [h3]; simp only [tagE, Res.bind, hk, hl, if_pos hn]
theorem lck_ok {i l : Nat} {d : DS} {env : PEnv} {st : Store} {ks : List Key} {xs : List PV} {P : Flow → Store → Prop} (h1 : env[i]? = some (some (.loc l))) (h2 : st[l]? = some (.dct ks xs)) (h : Ok (d (env.set i (some (.dct true ks xs))) (st.set l .dead)) P) : Ok (lckD i d env st) P := by
  refine Ok.eq ?_ h
  unfold lckD; rw [h1]; simp only [h2]
end CD

set_option Elab.async false
set_option linter.all false
set_option maxRecDepth 100000
set_option maxHeartbeats 2000000
namespace CD
open PySem PySem.Spec PyProof.Rows L2 RZ StX ClX
open PySem.W (dataLt minD AlikeAll iter_listW cmpIn_lt moved_old argBest_fold)
variable {X : Cx} {W : WX}
/-! ### min of a list of pairs of ints -/
def pairI : PV → Option (Int × Int)
  | .tup [.int a, .int b] => some (a, b)
  | _ => none
def pairsI : List PV → Option (List (Int × Int))
  | [] => some []
  | p :: ps => match pairI p, pairsI ps with
    | some q, some qs => some (q :: qs)
    | _, _ => none
def prP (q : Int × Int) : PV := .tup [.int q.1, .int q.2]
theorem pairI_ok {p : PV} {q : Int × Int} (h : pairI p = some q) : p = prP q := by
  unfold pairI at h
  split at h
  · cases h; rfl
  · cases h
theorem pairsI_ok : ∀ {ps : List PV} {qs : List (Int × Int)}, pairsI ps = some qs → ps = qs.map prP
  | [], qs, h => by cases h; rfl
  | p :: ps, qs, h => by
    unfold pairsI at h
    split at h
    · rename_i q qs' h1 h2
      cases h
      rw [List.map_cons, ← pairI_ok h1, ← pairsI_ok h2]
    · cases h
theorem pairsI_map : ∀ qs : List (Int × Int), pairsI (qs.map prP) = some qs
  | [] => rfl
  | q :: qs => by
    have := pairsI_map qs
    rw [List.map_cons]
    unfold pairsI
    rw [this]; rfl
def ltPr (p q : Int × Int) : Bool := if p.1 = q.1 then decide (p.2 < q.2) else decide (p.1 < q.1)
def minQ (q : Int × Int) (qs : List (Int × Int)) : Int × Int := qs.foldl (fun a y => if ltPr y a = true then y else a) q
def prD (q : Int × Int) : PyData := .tuple [.int q.1, .int q.2]
theorem dataLt_pr (p q : Int × Int) : dataLt (prD p) (prD q) = ltPr p q := PySem.W.DatumOrd.lt_eq (α := Int × Int) p q
theorem minD_pr : ∀ (qs : List (Int × Int)) (q : Int × Int), minD (prD q) (qs.map prD) = prD (minQ q qs) := fun qs => by
  unfold minD minQ
  induction qs with
  | nil => intro q; rfl
  | cons y ys ih =>
    intro q
    rw [List.map_cons, List.foldl_cons, List.foldl_cons, ← ih]
    simp only [dataLt_pr]
    congr 1
    by_cases h : ltPr y q = true
    · rw [if_pos h, if_pos h]
    · rw [if_neg h, if_neg h]
theorem prD_inj {p q : Int × Int} (h : prD p = prD q) : p = q := by
  unfold prD at h
  injection h with h
  injection h with h1 h2
  injection h1 with h1
  injection h2 with h2 _
  injection h2 with h2
  exact Prod.ext h1 h2
theorem alike_pr (qs : List (Int × Int)) : AlikeAll (qs.map prD) := PySem.W.alikeAll_datum (α := Int × Int) qs
def rMinP (K : PySem.W.Frag) : List V → Hp → VK → Prop := fun xs H Q => ∃ (a : Addr) (ys : List V) (q : Int × Int) (qs : List (Int × Int)), xs = [V.ref a] ∧ SqL K H a ys ∧ DpAll K H ys ((q :: qs).map prD) ∧
  ∀ (i : Nat) (y : V), ys[i]? = some y → (q :: qs)[i]? = some (minQ q qs) → Q y H
theorem depth_pr : ∀ qs : List (Int × Int), PyData.depthAll (qs.map prD) ≤ 3
  | [] => by simp [PyData.depthAll]
  | q :: qs => by
    have := depth_pr qs
    simp only [List.map_cons, PyData.depthAll, prD, PyData.depth]
    omega
theorem dpAll_len {K : PySem.W.Frag} {H : Hp} : ∀ {vs : List V} {ds : List PyData}, DpAll K H vs ds → vs.length = ds.length
  | _, _, .nil => rfl
  | _, _, .cons _ t => congrArg (· + 1) (dpAll_len t)
theorem cr_minP {k : Nat} (hc : X.calm = true) (hr : Room k X.A) : CallR X (.builtin "min") (rMinP X.K) := by
  intro pins s σ H xs us Q I r h
  obtain ⟨a, ys, q, qs, rfl, hs, hd, k⟩ := h
  obtain ⟨its, rv, pl, hz⟩ := I.list hs
  rw [Vals.ref1 r]
  obtain ⟨as, ra⟩ := Dp.readsAll I _ _ _ hd rv
  have hlen : its.length = qs.length + 1 := by
    have h1 := rv.length
    have h2 := dpAll_len hd
    simp at h2; omega
  refine call_min_walkH (iter_listW (A := X.A.in1) (I.ok.hd hc) pl.isList fun s₂ e W st hfp hw hk => ?_)
  refine ⟨_, _, _, _, _, _, _, s.heap, _, rfl, W, st, hfp, by rw [List.size_toArray]; omega, hw, hk, cmpIn_lt (A := X.A.in1) (vs := its.toArray) (xs := (q :: qs).map prD) (as := as) (by simpa using ra) (alike_pr _) (by have h1 := hr.units; have h2 := depth_pr (q :: qs); show X.A.units + 1 + _ < _; omega), fun v s' hP m => ?_⟩
  obtain ⟨h', tk, rfl, hk'⟩ := moved_old e rfl m
  have e1 : its.toArray.size - 1 = (qs.map prD).length := by rw [List.size_toArray, List.length_map]; omega
  rw [e1] at hP
  obtain ⟨f1, f2⟩ := argBest_fold dataLt PyData.none (prD q) (qs.map prD) (qs.map prD).length (Nat.le_refl _)
  rw [List.take_length] at f2
  have hm := minD_pr qs q
  unfold minD at hm
  rw [hm] at f2
  generalize hj : argBest (fun i j => dataLt ((prD q :: qs.map prD).getD i PyData.none) ((prD q :: qs.map prD).getD j PyData.none)) (qs.map prD).length = j at f1 f2
  have hP' : its.toArray[j]? = some v := by rw [← hj]; exact hP
  have hjl : j < (q :: qs).length := by simp at f1 ⊢; omega
  have hq : (q :: qs)[j]? = some (minQ q qs) := by
    have g1 : (q :: qs)[j]? = some (q :: qs)[j] := List.getElem?_eq_getElem hjl
    have g2 : (prD q :: qs.map prD)[j]? = some (prD (q :: qs)[j]) := by
      have : (prD q :: qs.map prD) = (q :: qs).map prD := rfl
      rw [this, List.getElem?_map, g1]; rfl
    rw [List.getD_eq_getElem?_getD, g2] at f2
    rw [g1, prD_inj f2]
  have hjy : j < ys.length := by
    have h3 := rv.length
    have h4 : (q :: qs).length = qs.length + 1 := rfl
    omega
  have hy : ys[j]? = some ys[j] := List.getElem?_eq_getElem hjy
  obtain ⟨u, hu, ru⟩ := rv.get hy
  have eu : u = v := by
    have : its.toArray[j]? = some u := by simpa using hu
    rw [hP'] at this; cases this; rfl
  subst eu
  exact ⟨_, H, I.kept (t' := tk) hk', ru, k j _ hy hq⟩
def minPF : List PV → M PV
  | [p] => fun st => match sqlOf st p with
    | some xs => match pairsI xs with
      | some (q :: qs) => .ok (prP (minQ q qs)) st
      | _ => .stuck
    | none => .stuck
  | _ => nope
theorem scall_minP {G : GC} : SCall G (rMinP G.K) minPF := by
  intro r H st ps xs E Q R hx h
  unfold minPF at h
  split at h
  · obtain ⟨v, rfl, q⟩ := rep1 hx
    split at h
    · rename_i ys hs
      split at h
      · rename_i qq qs hn
        obtain ⟨a, vs, e, f, l⟩ := sqlOf_ok R q hs
        subst e
        have := pairsI_ok hn
        subst this
        refine ⟨a, vs, qq, qs, rfl, f, ?_, fun i y hy hi => ?_⟩
        · refine toDL_ok (h := noD) (fun l d v e => by cases e) _ vs _ l ?_
          exact toDL_map _ fun x _ => by simp [prP, toD, toDL, prD]
        · obtain ⟨y', hy', k⟩ := l.get (i := i) (x := prP (minQ qq qs)) (by rw [List.getElem?_map, hi]; rfl)
          rw [hy] at hy'; cases hy'
          exact h r H Step.refl R _ k
      · exact h.elim
    · exact h.elim
  · exact h.elim
theorem ev_minP {p : PV} {q : Int × Int} {qs : List (Int × Int)} {st : Store} (h : sqlOf st p = some ((q :: qs).map prP)) : minPF [p] st = .ok (prP (minQ q qs)) st := by
  unfold minPF
  simp only [h, pairsI_map]
theorem ltPr_iff {p q : Int × Int} : ltPr p q = true ↔ p.1 < q.1 ∨ (p.1 = q.1 ∧ p.2 < q.2) := by
  unfold ltPr
  by_cases h : p.1 = q.1
  · rw [if_pos h]; simp [h]
  · rw [if_neg h]; simp [h]
/-- the one that all others are greater than -/
theorem minQ_is {m : Int × Int} : ∀ (qs : List (Int × Int)) (q : Int × Int), (m = q ∨ m ∈ qs) → (∀ x, (x = q ∨ x ∈ qs) → x = m ∨ ltPr m x = true) → minQ q qs = m
  | [], q, h, _ => by rcases h with h | h; exact h.symm; cases h
  | y :: qs, q, h, hl => by
    unfold minQ
    rw [List.foldl_cons]
    refine minQ_is qs _ ?_ fun x hx => ?_
    · by_cases c : ltPr y q = true
      · rw [if_pos c]
        rcases h with h | h
        · subst h
          rcases hl y (.inr List.mem_cons_self) with e | e
          · exact .inl e.symm
          · have h1 := ltPr_iff.mp c
            have h2 := ltPr_iff.mp e
            omega
        · rcases List.mem_cons.mp h with h | h
          · exact .inl h
          · exact .inr h
      · rw [if_neg c]
        rcases h with h | h
        · exact .inl h
        · rcases List.mem_cons.mp h with h | h
          · subst h
            rcases hl q (.inl rfl) with e | e
            · exact .inl e.symm
            · exact absurd e c
          · exact .inr h
    · by_cases c : ltPr y q = true
      · rw [if_pos c] at hx
        rcases hx with hx | hx
        · exact hl x (.inr (by rw [hx]; exact List.mem_cons_self))
        · exact hl x (.inr (List.mem_cons_of_mem _ hx))
      · rw [if_neg c] at hx
        rcases hx with hx | hx
        · exact hl x (.inl hx)
        · exact hl x (.inr (List.mem_cons_of_mem _ hx))
end CD

set_option Elab.async false
set_option linter.all false
set_option maxRecDepth 100000
set_option maxHeartbeats 2000000
namespace CD
open PySem PySem.Spec PyProof.Rows L2 RZ StX ClX
variable {X : Cx} {W : WX}
/-! ### a comprehension over a list that is a place, and stays as it is meanwhile -/
def lcLP (g : PV → PEnv → M PEnv) (t : PEnv → M Bool) (e : DE) (l n : Nat) : Nat → List PV → PEnv → M (List PV)
  | 0, acc, _, st => match st[l]? with
    | some (.lst xs) => if xs.length = n then .ok acc st else .stuck
    | _ => .stuck
  | k + 1, acc, env, st => match st[l]? with
    | some (.lst xs) => if xs.length = n then match xs[n - (k + 1)]? with
      | some x => (g x env st).bind fun env1 st1 => (t env1 st1).bind fun b st2 => if b = true then (e env1 st2).bind fun p st3 => if acc.length < sizeLine then lcLP g t e l n k (acc ++ [p]) env st3 else .stuck
        else lcLP g t e l n k acc env st2
      | none => .stuck
      else .stuck
    | _ => .stuck
def lcPD (k : List PV → M PV) (d : DE) (vs : List Nat) (g : PV → PEnv → M PEnv) (t : PEnv → M Bool) (e : DE) : DE := fun env st => (d env st).bind fun p st => match p with
  | .loc l => match st[l]? with
    | some (.lst xs) => (noX (lcLP g t e l xs.length xs.length [] (wipeE env vs) st)).bind fun ys st => k ys st
    | _ => .stuck
  | _ => .stuck
theorem lcLP_cell {g : PV → PEnv → M PEnv} {t : PEnv → M Bool} {e : DE} {l n k : Nat} {acc ys : List PV} {env : PEnv} {st stF : Store} (h : lcLP g t e l n k acc env st = .ok ys stF) : ∃ xs, st[l]? = some (.lst xs) ∧ xs.length = n := by
  cases k with
  | zero =>
    unfold lcLP at h
    split at h
    · rename_i xs hx
      split at h
      · rename_i hn; exact ⟨xs, hx, hn⟩
      · cases h
    · cases h
  | succ k =>
    unfold lcLP at h
    split at h
    · rename_i xs hx
      split at h
      · rename_i hn; exact ⟨xs, hx, hn⟩
      · cases h
    · cases h
theorem place_at {G : GC} {r1 q : Loc} {H1 H' : Hp} {st' : Store} {D a : Addr} {l : Nat} {xs : List PV} (ha : r1.s[l]? = some (some a)) (hl : l < r1.s.length) (e : Step r1 H1 q H') (R' : SRel G (q.hide D) H' st') (hx : st'[l]? = some (.lst xs)) : ∃ vs, H' a = some (.lst vs) ∧ RepL G (q.hide D) H' xs vs := by
  obtain ⟨a', h1⟩ := R'.has l _ hx rfl
  have h2 : q.s[l]? = some (some a') := h1
  have h3 := e.old l a' hl h2
  rw [ha] at h3
  cases h3
  obtain ⟨c, h4, k⟩ := R'.at_ l a h1
  rw [hx] at h4; cases h4
  exact k
theorem lcP_so {elt tg iter : Expr} {ifs : List Expr} {scope : Scope} {own : List (Str × Nat)} {tl : TE} {g : TG} {tv : List Nat} {tt : TT} {te : TE} {d : DE} {dg : PV → PEnv → M PEnv} {dt : PEnv → M Bool} {de : DE} {k : List PV → M PV}
    (hk : KOk (gc X) k) (hi : SE X W iter tl d)
    (hg : ∀ (s : Shared) (H : Hp) (C : Addr) (cl : List (Str × Addr)) (fp : List Addr), SG (X.blk s H scope (compEnvC scope cl C X.env) fp) tg g tv dg) (ht : ∀ (s : Shared) (H : Hp) (C : Addr) (cl : List (Str × Addr)) (fp : List Addr), STs (X.blk s H scope (compEnvC scope cl C X.env) fp) WF ifs tt dt)
    (he : ∀ (s : Shared) (H : Hp) (C : Addr) (cl : List (Str × Addr)) (fp : List Addr), SE (X.blk s H scope (compEnvC scope cl C X.env) fp) WF elt te de) (hv : ∀ i ∈ tv, i ∈ own.map (·.2)) :
    ∀ r s H env st Q, EnvR (gc X) r H s env → SRel (gc X) r H st → Post (gc X) (fun c d H => W c d s H) r H (lcPD k d (own.map (·.2)) dg dt de env st) (okE (gc X) Q) → tLc (iSeq X.K tl) g tt te (own.map (·.2)) s H Q := by
  intro r s H env st Q E R h
  refine hi.so r s H env st _ E R (h.bind.imp fun p st1 r1 H1 t1 R1 h1 v hv1 => ?_)
  split at h1
  · rename_i l
    split at h1
    · rename_i xs hxs
      obtain ⟨a, rfl, ha, vs0, ea, l0⟩ := loc_ok R1 hv1 hxs rfl
      have hl : l < r1.s.length := lt_of_get ha
      refine ⟨a, rfl, .inl ⟨⟨vs0, SqL.of ea⟩, fun D nD => ?_⟩⟩
      have hg0 := (hg {} H1 0 [] []).so
      have ht0 := (ht {} H1 0 [] []).so
      have he0 := (he {} H1 0 [] []).so
      have DL1 : ¬ live r1 D := R1.fresh nD
      have DH1 : ¬ D ∈ r1.hid := fun z => R1.hd D z nD
      obtain ⟨ys, stF, hres, h1⟩ : ∃ ys stF, lcLP dg dt de l xs.length xs.length [] (wipeE env (own.map (·.2))) st1 = .ok ys stF ∧ Post (gc X) (fun c d H => W c d s H) r1 H1 (k ys stF) (okE (gc X) Q) := by
        cases q : lcLP dg dt de l xs.length xs.length [] (wipeE env (own.map (·.2))) st1 with
        | stuck => rw [q] at h1; exact h1.elim
        | ok ys stF => rw [q] at h1; exact ⟨ys, stF, rfl, h1⟩
        | exc _ _ _ => rw [q] at h1; exact h1.elim
      have wk : Walk (Itl X.K a) xs.length (fun H' => ∃ vs, SqL X.K H' a vs ∧ vs.length = xs.length) (fun i H' x H2 => H2 = H' ∧ ∀ vs, SqL X.K H' a vs → vs[i]? = some x) :=
        ⟨fun i H' hi' q => let ⟨vs, q1, q2⟩ := q; ⟨vs, vs[i]'(by omega), q1, by simp⟩, fun H' q => let ⟨vs, q1, q2⟩ := q; ⟨vs, q1, by omega⟩, fun i H' x H2 _ _ y => y⟩
      refine lc_it wk (fun i H' => ∃ q acc vs st', Step r1 H1 q H' ∧ SRel (gc X) (q.hide D) H' st' ∧ H' D = some (.lst vs) ∧ ¬ live q D ∧ RepL (gc X) (q.hide D) H' acc vs ∧ EnvR (gc X) (q.hide D) H' (L2.wipe s (own.map (·.2))) (wipeE env (own.map (·.2))) ∧
          i ≤ xs.length ∧ lcLP dg dt de l xs.length (xs.length - i) acc (wipeE env (own.map (·.2))) st' = .ok ys stF)
        ⟨r1, [], [], st1, Step.new1 nD, R1.hide nD, upd_same, DL1, RepL.nil, ((E.step t1).wipe _).evo (Evo.hide nD), Nat.zero_le _, by rw [Nat.sub_zero]; exact hres⟩ (fun i H' _ p => ?_) (fun i x H' H2 hi' p y => ?_) (fun H' p => ?_)
      · obtain ⟨q, _, _, st', e, R', _, _, _, _, _, post⟩ := p
        obtain ⟨xs', hx', hn'⟩ := lcLP_cell post
        obtain ⟨vs, q1, q2⟩ := place_at ha hl e R' hx'
        exact ⟨vs, SqL.of q1, by rw [← q2.len]; exact hn'⟩
      · obtain ⟨q, acc, vs, st', e, R', eD, nl, la, E', hle, post⟩ := p
        obtain ⟨rfl, y⟩ := y
        obtain ⟨xs', hx', hn'⟩ := lcLP_cell post
        obtain ⟨ws, q1, q2⟩ := place_at ha hl e R' hx'
        have hwi := y ws (SqL.of q1)
        have hxi : xs'[i]? = some xs'[i] := List.getElem?_eq_getElem (by omega)
        obtain ⟨x', hx2, kx⟩ := q2.get hxi
        rw [hwi] at hx2; cases hx2
        obtain ⟨m, hm⟩ : ∃ m, xs.length - i = m + 1 := ⟨xs.length - i - 1, by omega⟩
        rw [hm] at post
        unfold lcLP at post
        rw [hx'] at post
        simp only [if_pos hn'] at post
        rw [show xs.length - (m + 1) = i by omega, hxi] at post
        simp only at post
        have hm2 : m = xs.length - (i + 1) := by omega
        obtain ⟨env1, sta, q1', post⟩ := bind_ok post
        obtain ⟨b, stb, q2', post⟩ := bind_ok post
        refine hg0 (q.hide D) (L2.wipe s (own.map (·.2))) _ _ st' xs'[i] x (fun _ _ _ => True) _ E' R' kx (Post.of_ok q1' fun ra Ha ta Ra s2 E2 w2 => ?_)
        refine ⟨by rw [w2 _ hv, wipe_wipe], ht0 ra s2 Ha env1 sta _ E2 Ra (Post.of_ok q2' fun rb Hb tb Rb => ?_)⟩
        have tab := ta.trans tb
        cases b with
        | false =>
          simp only [okT, Bool.false_eq_true, ↓reduceIte] at post ⊢
          obtain ⟨q', rfl⟩ := tab.isHide
          have U := tab.unhide
          exact ⟨q', acc, vs, stb, e.trans U, Rb, tab.keep D _ nl eD, U.dead nl eD, RepL.step tab _ _ la, E'.step tab, by omega, by rw [← hm2]; exact post⟩
        | true =>
          simp only [okT, ↓reduceIte] at post ⊢
          obtain ⟨p, stc, q3, post⟩ := bind_ok post
          refine he0 rb s2 Hb env1 stb _ (E2.step tb) Rb (Post.of_ok q3 fun rc Hc tc Rc v kv => ?_)
          have tall := tab.trans tc
          obtain ⟨q', rfl⟩ := tall.isHide
          have U := tall.unhide
          have eDc := tall.keep D _ nl eD
          have lac := RepL.step tall _ _ la
          have nlc := U.dead nl eD
          have mD : D ∈ (q'.hide D).hid := List.mem_cons_self
          have hlen : acc.length < sizeLine := by
            by_cases z : acc.length < sizeLine
            · exact z
            · rw [if_neg z] at post; cases post
          rw [if_pos hlen] at post
          refine ⟨vs, eDc, by rw [← lac.len]; exact hlen, q', acc ++ [p], vs ++ [v], stc, (e.trans U).out nD, Rc.wr mD nlc, upd_same, nlc, ?_, (E'.step tall).evo (Evo.wr mD), by omega, by rw [← hm2]; exact post⟩
          exact RepL.append (RepL.evo (Evo.wr mD) _ _ lac) (RepL.cons (Rep.evo (Evo.wr mD) _ _ kv) RepL.nil)
      · obtain ⟨q, acc, vs, st', e, R', eD, nl, la, E', _, post⟩ := p
        rw [Nat.sub_self] at post
        obtain ⟨xs', hx', hn'⟩ := lcLP_cell post
        unfold lcLP at post
        rw [hx'] at post
        simp only [if_pos hn'] at post
        cases post
        exact hk q H' _ _ vs D _ Q R' eD nl (fun z => DH1 (by rw [← e.hid]; exact z)) la r1 H1 nD e h1
    · exact h1.elim
  · exact h1.elim
section
variable {elt tg iter : Expr} {ifs : List Expr} {scope : Scope} {own : List (Str × Nat)} {tl : TE} {g : TG} {tv : List Nat} {tt : TT} {te : TE} {d : DE} {dg : PV → PEnv → M PEnv} {dt : PEnv → M Bool} {de : DE} {k : List PV → M PV} {pos : Pos}
theorem se_lcP (hk : KOk (gc X) k) (hc : X.calm = true) (hN : X.N.Nodup) (hi : SE X W iter tl d) (ok : BlkOk X.N X.env.scope scope own)
    (hg : ∀ (s : Shared) (H : Hp) (C : Addr) (cl : List (Str × Addr)) (fp : List Addr), SG (X.blk s H scope (compEnvC scope cl C X.env) fp) tg g tv dg) (ht : ∀ (s : Shared) (H : Hp) (C : Addr) (cl : List (Str × Addr)) (fp : List Addr), STs (X.blk s H scope (compEnvC scope cl C X.env) fp) WF ifs tt dt)
    (he : ∀ (s : Shared) (H : Hp) (C : Addr) (cl : List (Str × Addr)) (fp : List Addr), SE (X.blk s H scope (compEnvC scope cl C X.env) fp) WF elt te de) (hv : ∀ i ∈ tv, i ∈ own.map (·.2) := by decide)
    (hs : ∀ x, foldedSetIterable iter X.env x = pure x := by intro _; rfl) : SE X W (.ListComp elt [⟨tg, iter, ifs, 0⟩] scope pos) (tLc (iSeq X.K tl) g tt te (own.map (·.2))) (lcPD k d (own.map (·.2)) dg dt de) :=
  ⟨pe_lc hc hN (pi_seq hi.pe) ok (fun s H C cl fp => (hg s H C cl fp).pg) (fun s H C cl fp => (ht s H C cl fp).pts) (fun s H C cl fp => (he s H C cl fp).pe) hs, lcP_so hk hi hg ht he hv⟩
/-- name = [..] -/
theorem ss_setLcP {i : Nat} {y : Str} {py spos : Pos} (hk : KOk (gc X) k) (hc : X.calm = true) (hN : X.N.Nodup) (hsw : swapsWith (.ListComp elt [⟨tg, iter, ifs, 0⟩] scope pos) (some (.Name y py)) spos.line X.env = pure true)
    (hi : SE X W iter tl d) (ok : BlkOk X.N X.env.scope scope own)
    (hg : ∀ (s : Shared) (H : Hp) (C : Addr) (cl : List (Str × Addr)) (fp : List Addr), SG (X.blk s H scope (compEnvC scope cl C X.env) fp) tg g tv dg) (ht : ∀ (s : Shared) (H : Hp) (C : Addr) (cl : List (Str × Addr)) (fp : List Addr), STs (X.blk s H scope (compEnvC scope cl C X.env) fp) WF ifs tt dt)
    (he : ∀ (s : Shared) (H : Hp) (C : Addr) (cl : List (Str × Addr)) (fp : List Addr), SE (X.blk s H scope (compEnvC scope cl C X.env) fp) WF elt te de) (hv : ∀ i ∈ tv, i ∈ own.map (·.2) := by decide)
    (hy : X.N[i]? = some y := by rfl) (hyl : X.env.scope.names.lookup y = some .local := by rfl) (hs : ∀ x, foldedSetIterable iter X.env x = pure x := by intro _; rfl) :
    SS X W (.Assign [.Name y py] (.ListComp elt [⟨tg, iter, ifs, 0⟩] scope pos) spos) (tAsg (tLc (iSeq X.K tl) g tt te (own.map (·.2))) (gName i)) (setD i (lcPD k d (own.map (·.2)) dg dt de)) :=
  ⟨ps_setLc hc hN hy hyl hsw (pi_seq hi.pe) ok (fun s H C cl fp => (hg s H C cl fp).pg) (fun s H C cl fp => (ht s H C cl fp).pts) (fun s H C cl fp => (he s H C cl fp).pe) hs, fun r s H env st D E R h =>
    lcP_so hk hi hg ht he hv r s H env st _ E R ((PostS.bind E h).imp fun p st1 r1 H1 t1 R1 h1 x hx => h1 r1 H1 _ Step.refl R1 ((E.step t1).set hx))⟩
end
/-- by values: reading alone -/
theorem lcP_map {γ : Type} {env : PEnv} {st : Store} {d : DE} {vs : List Nat} {tg : PV → PEnv → M PEnv} {e : DE} {k : List PV → M PV} {l : List γ} {enc : γ → PV} {a : Nat} (e1 : γ → PEnv) (g : γ → PV) (hi : d env st = .ok (.loc a) st) (hs : st[a]? = some (.lst (l.map enc))) (hl : l.length ≤ 100000)
    (hg : ∀ x ∈ l, tg (enc x) (wipeE env vs) st = .ok (e1 x) st) (he : ∀ x ∈ l, e (e1 x) st = .ok (g x) st) : lcPD k d vs tg yesB e env st = k (l.map g) st := by
  have key : ∀ (m : Nat), m ≤ l.length → ∀ acc : List PV, acc = (l.take (l.length - m)).map g → lcLP tg yesB e a (l.map enc).length m acc (wipeE env vs) st = .ok (l.map g) st := by
    intro m
    induction m with
    | zero =>
      intro _ acc ha
      unfold lcLP
      rw [hs]
      simp only [if_true]
      rw [ha, Nat.sub_zero, List.take_length]
    | succ m ih =>
      intro hm acc ha
      have hi' : l.length - (m + 1) < l.length := by omega
      have hx : l[l.length - (m + 1)]? = some l[l.length - (m + 1)] := List.getElem?_eq_getElem hi'
      have hmem := List.mem_of_getElem? hx
      unfold lcLP
      rw [hs]
      simp only [if_true, List.length_map, List.getElem?_map, hx, Option.map_some]
      rw [hg _ hmem]
      simp only [Res.bind, yesB, if_true]
      rw [he _ hmem]
      simp only [Res.bind]
      rw [if_pos (by rw [ha, List.length_map, List.length_take]; have : (100000 : Nat) < sizeLine := by decide
                     omega)]
      have := ih (by omega) (acc ++ [g l[l.length - (m + 1)]]) (by
        rw [ha, show l.length - m = l.length - (m + 1) + 1 by omega, List.take_add_one, hx, List.map_append]; rfl)
      simpa using this
  unfold lcPD
  rw [hi, Res.bind_ok]
  simp only [hs]
  have := key (l.map enc).length (by simp) [] (by simp)
  rw [this]; rfl
end CD

set_option Elab.async false
set_option linter.all false
set_option maxRecDepth 100000
set_option maxHeartbeats 4000000
namespace CD
open PySem PySem.Spec PyProof.Rows L2 RZ StX ClX
/-! ### set(xs) of a list of ints, with what sorted asks of it -/
section
variable {P : Program} {w : World} {A : Around} {E : Value → Shared → Prop} {s : Shared}
abbrev set0 (w : World) : Obj := { cls := .type "set", dict := none, data := .set #[] 0 (.fresh 0 0 (!w.params.followText "set-order")) }
set_option maxHeartbeats 6400000 in
theorem setOfList {lx : Addr} {its : Array Value} (ks : List Int) {G : Value → Shared → Prop} (h0 : A.handled = none) (hL : s.heap.IsList lx its) (hI : IntsAre its.toList ks) (hB : ks.length + 1 < scanBound)
    (go : ∀ (h' : Heap) (tk c : Nat), SetR w h' s.heap.objs.size (fun j => decide (j ∈ ks)) c → c ≤ ks.length → (∀ b o, s.heap.get? b = some o → h'.get? b = some o) → G (.ref s.heap.objs.size) { s with heap := h', toks := tk }) :
    wpAny (model P w) A (call (.type "set") [.ref lx]) G E s := by
  have hz : its.size = ks.length := by have q := hI.length; rw [Array.length_toList] at q; exact q
  obtain ⟨cc, t0, hm0⟩ := F.called_set.mro; have hm1 := F.called_set.made; have hm2 := F.called_set.sub
  refine wpAny_call (codeAny_of_tree ?_); show wpAny _ _ (callAny (.type "set") _) _ _ _
  refine wpAny_pure ⟨Code.quiet_builtin _ (by decide +kernel), codeAny_builtin F.entry_type_call ?_⟩; rw [Around.under_plain (weight_type_call_type "set" [.ref lx] []) rfl]
  have a1 := F.called_set.notType; have a2 := F.called_set.canCreate; have a3 := F.typeCall_set_1 (.ref lx)
  repeat (any_goals (first | assumption | wp_step))
  refine codeAny_mono (code_set_led1 (.ref lx) (E := E) (Q₁ := fun x y => x = .ref s.heap.objs.size ∧ y = { s with heap := s.heap.push (set0 w) }) ⟨rfl, rfl⟩) fun z y hy => ?_
  cases z with
  | error _ => exact hy
  | ok f => cases f with
    | next => exact hy.elim
    | brk => exact hy.elim
    | cont => exact hy.elim
    | ret x =>
      obtain ⟨rfl, rfl⟩ := hy
      have gS : (s.heap.push (set0 w)).get? s.heap.objs.size = some (set0 w) := Heap.get?_push_size _ rfl
      have tS : Shared.TypeIs { s with heap := s.heap.push (set0 w) } (.ref s.heap.objs.size) "set" := ⟨_, gS, rfl⟩
      have b1 := F.called_set.init.lookup; have b2 := F.called_set.init.bind (.ref s.heap.objs.size)
      repeat (any_goals (first | assumption | wp_step))
      refine codeAny_mono (codeAny_call_builtin (R := wants (fun r y => r = .none ∧ ∃ h' tk c, y = { s with heap := h', toks := tk } ∧ SetR w h' s.heap.objs.size (fun j => decide (j ∈ ks)) c ∧ c ≤ ks.length ∧ ∀ b o, s.heap.get? b = some o → h'.get? b = some o) E) F.called_set.init.plain F.entry_set_init (check_set_init_1 tS ?_)) fun z2 y2 hy2 => ?_
      · obtain ⟨⟨oc, od, oda, osl⟩, ho, hc, n0, hd⟩ := hL; simp only at hc hd; subst hc hd
        have ho' : (s.heap.push (set0 w)).get? lx = some { cls := .type "list", dict := od, data := .seq its n0, slots := osl } := Heap.get?_push_of_some _ ho
        have e1 := F.sub_list_set; have e2 := F.sub_list_frozenset; have e3 : (Value.type "list" == Value.type "dict") = false := by decide
        have hL1 : (s.heap.push (set0 w)).IsList lx its := ⟨_, ho', rfl, n0, rfl⟩
        unfold Builtin.«set.__init__» noKeywords Builtin.Frozenset.updateFrom; generalize hp : pyIter = pI; wp_walk; subst hp
        refine wpAny_pyIter_list hL1 (wpAny_bind (wpAny_runValue ?_))
        have lt0 : lx < s.heap.objs.size := Heap.lt_size ho
        have hS3 : A.in1.in1.in1.handled = none := by simp [h0]
        have sz1 : (s.heap.push (set0 w)).objs.size = s.heap.objs.size + 1 := Heap.size_push ..
        have ne1 : lx ≠ (s.heap.push (set0 w)).objs.size := by rw [sz1]; exact Nat.ne_of_lt (Nat.lt_succ_of_lt lt0)
        have nin : s.heap.objs.size ∉ [(s.heap.push (set0 w)).objs.size, lx] := by
          rw [sz1]; intro z; rcases List.mem_cons.mp z with z | z
          · exact Nat.ne_of_lt (Nat.lt_succ_self _) z
          · exact Nat.ne_of_gt lt0 (List.mem_singleton.mp z)
        have val : ∀ (i : Nat) (v : Value), its[i]? = some v → ∃ k t, ks[i]? = some k ∧ v = .int k t := fun i v hv => by
          have hi : i < ks.length := by rw [← hz]; exact (Array.getElem?_eq_some_iff.mp hv).1
          obtain ⟨t, e⟩ := IntsAre.int_at hI i v (by rw [Array.getElem?_toList]; exact hv)
          exact ⟨ks[i], t, List.getElem?_eq_getElem hi, by rw [e, List.getD_eq_getElem?_getD, List.getElem?_eq_getElem hi] <;> rfl⟩
        refine set_update_ints ((Walks.list hS3 _ lx ne1 its).toS) s.heap.objs.size nin ks hz hB val (its.size - 0) 0 _ (by omega) (Nat.zero_le _) ⟨⟨_, Heap.get?_push_size _ rfl, rfl, rfl⟩, hL1.push _⟩ ⟨0, Nat.le_refl 0, setR_new_at (Heap.get?_push_of_some _ gS)⟩ fun y c hmv hcl hR => ?_
        obtain ⟨h', g', d', tk', os'⟩ := y
        cases (show g' = s.gens from hmv.gens); cases (show d' = s.drawn from hmv.drawn); cases (show os' = s.os from hmv.os)
        show wpAny _ _ _ _ _ _; refine wpAny_pure ?_; show wpAny _ _ (ret Value.none) _ _ _
        rw [hz] at hcl
        refine wpAny_pure ⟨rfl, h', tk', c, rfl, hR, hcl, fun b o e => ?_⟩
        have lb : b < s.heap.objs.size := Heap.lt_size e
        exact hmv.heap b o (fun z => by
          rcases List.mem_cons.mp z with z | z
          · exact Nat.ne_of_lt lb z
          · have z := List.mem_singleton.mp z
            rw [sz1] at z; exact Nat.ne_of_lt (Nat.lt_succ_of_lt lb) z) (Heap.get?_push_of_some _ (Heap.get?_push_of_some _ e))
      · cases z2 with
        | error _ => exact hy2
        | ok f2 => cases f2 with
          | next => exact hy2.elim
          | brk => exact hy2.elim
          | cont => exact hy2.elim
          | ret x2 =>
            obtain ⟨rfl, h', tk, c, rfl, q1, q2, q3⟩ := hy2
            repeat (any_goals (first | assumption | wp_step))
            exact go _ _ _ q1 q2 q3
end
end CD

set_option Elab.async false
set_option linter.all false
set_option maxRecDepth 100000
set_option maxHeartbeats 2000000
namespace CD
open PySem PySem.Spec PyProof.Rows L2 RZ StX ClX
variable {X : Cx} {W : WX}
/-! ### sorted(set(xs)), xs a list of ints -/
def rSet1 (K : PySem.W.Frag) (w : World) : List V → Hp → VK → Prop := fun xs H Q => ∃ (l : Addr) (ks : List Int), xs = [V.ref l] ∧ SqL K H l (ks.map V.int) ∧ ks.length ≤ 60 ∧
  ∀ (p : Addr) (c : Nat), H p = none → c ≤ ks.length → Q (.ref p) (upd H p (SetO w p (fun j => decide (j ∈ ks)) c))
theorem cr_set1 (hc : X.calm = true) : CallR X (.type "set") (rSet1 X.K X.w) := by
  intro pins s σ H xs us Q I r h
  obtain ⟨l, ks, rfl, hs, hl, q⟩ := h
  obtain ⟨its, rv, pl, hz⟩ := I.list hs
  rw [Vals.ref1 r]
  refine setOfList ks (I.ok.hd hc) pl.isList (by simpa using rv.ints) (by unfold scanBound; omega) fun h' tk c R hle hk => ?_
  exact ⟨.ref _, upd H s.heap.objs.size (SetO X.w s.heap.objs.size (fun j => decide (j ∈ ks)) c), I.laid (t' := tk) (fun b u e => hk b u e) (Nat.le_refl _) (setO_new R), rfl, q _ c (I.hok.fresh (Nat.le_refl _)) hle⟩
/-- the members, ascending -/
def insU (k : Int) : List Int → List Int
  | [] => [k]
  | x :: l => if k < x then k :: x :: l else if k = x then x :: l else x :: insU k l
def sortU (ks : List Int) : List Int := ks.foldr insU []
theorem insU_mem {k j : Int} : ∀ {l : List Int}, j ∈ insU k l ↔ j = k ∨ j ∈ l
  | [] => by simp [insU]
  | x :: l => by
    unfold insU
    split
    · simp
    · split
      · rename_i h; subst h; simp
      · rw [List.mem_cons, insU_mem (l := l), List.mem_cons]
        constructor
        · rintro (h | h | h)
          · exact .inr (.inl h)
          · exact .inl h
          · exact .inr (.inr h)
        · rintro (h | h | h)
          · exact .inr (.inl h)
          · exact .inl h
          · exact .inr (.inr h)
theorem insU_asc {k : Int} : ∀ {l : List Int}, l.Pairwise (· < ·) → (insU k l).Pairwise (· < ·)
  | [], _ => by simp [insU]
  | x :: l, h => by
    obtain ⟨h1, h2⟩ := List.pairwise_cons.mp h
    unfold insU
    split
    · rename_i hk
      refine List.pairwise_cons.mpr ⟨fun y hy => ?_, h⟩
      rcases List.mem_cons.mp hy with e | hy
      · rw [e]; exact hk
      · exact Int.lt_trans hk (h1 y hy)
    · split
      · exact h
      · rename_i n1 n2
        refine List.pairwise_cons.mpr ⟨fun y hy => ?_, insU_asc h2⟩
        rcases insU_mem.mp hy with e | hy
        · omega
        · exact h1 y hy
theorem sortU_mem {j : Int} : ∀ {ks : List Int}, j ∈ sortU ks ↔ j ∈ ks
  | [] => Iff.rfl
  | k :: ks => by
    show j ∈ insU k (sortU ks) ↔ _
    rw [insU_mem, sortU_mem (ks := ks), List.mem_cons]
theorem sortU_asc : ∀ ks : List Int, (sortU ks).Pairwise (· < ·)
  | [] => List.Pairwise.nil
  | k :: ks => insU_asc (sortU_asc ks)
theorem asc_only : ∀ {a b : List Int}, a.Pairwise (· < ·) → b.Pairwise (· < ·) → (∀ k, k ∈ a ↔ k ∈ b) → a = b
  | [], [], _, _, _ => rfl
  | [], y :: b, _, _, h => absurd ((h y).mpr List.mem_cons_self) (by simp)
  | x :: a, [], _, _, h => absurd ((h x).mp List.mem_cons_self) (by simp)
  | x :: a, y :: b, ha, hb, h => by
    obtain ⟨a1, a2⟩ := List.pairwise_cons.mp ha
    obtain ⟨b1, b2⟩ := List.pairwise_cons.mp hb
    have e : x = y := by
      have h1 := (h x).mp List.mem_cons_self
      have h2 := (h y).mpr List.mem_cons_self
      rcases List.mem_cons.mp h1 with e | h1
      · exact e
      · rcases List.mem_cons.mp h2 with e | h2
        · exact e.symm
        · have := b1 x h1; have := a1 y h2; omega
    subst e
    rw [asc_only a2 b2 fun k => ?_]
    constructor
    · intro hk
      rcases List.mem_cons.mp ((h k).mp (List.mem_cons_of_mem _ hk)) with e | h3
      · subst e; have := a1 k hk; omega
      · exact h3
    · intro hk
      rcases List.mem_cons.mp ((h k).mpr (List.mem_cons_of_mem _ hk)) with e | h3
      · subst e; have := b1 k hk; omega
      · exact h3
def sortSetD (d : DE) : DE := fun env st => (d env st).bind fun p st => match sqlOf st p with
  | some xs => match intsOf xs with
    | some ns => if ns.length ≤ 60 then .ok (.lst ((sortU ns).map .int)) st else .stuck
    | none => .stuck
  | none => .stuck
theorem se_sortSet {a : Expr} {ta : TE} {d : DE} {p pos p2 pos2 : Pos} (hc : X.calm = true) (hg : Gl X "sorted") (hm : X.mg "sorted" = none) (hg2 : Gl X "set") (hm2 : X.mg "set" = none) (ha : SE X W a ta d)
    (na : starEach [.Call (.Name "set" p2) [a] [] pos2] X.env = (false, eval (.Call (.Name "set" p2) [a] [] pos2) X.env) :: starEach [] X.env := by rfl) (na2 : starEach [a] X.env = (false, eval a X.env) :: starEach [] X.env := by rfl)
    (np : (backTo pos (starEach [] X.env)).any (·.1) = false := by rfl) (np2 : (backTo pos2 (starEach [] X.env)).any (·.1) = false := by rfl) :
    SE X W (.Call (.Name "sorted" p) [.Call (.Name "set" p2) [a] [] pos2] [] pos) (tCB (rSortedSet X.w) (tCons (tCB (rSet1 X.K X.w) (tCons ta tNil)) tNil)) (sortSetD d) := by
  refine ⟨pe_callB (cr_sortedSet hc) hg hm PyProof.Rows.boot_sorted (pa_cons (pe_callTy (cr_set1 hc) hg2 hm2 PyProof.Rows.boot_set (pa_cons ha.pe pa_nil na2) (by decide) (by decide) na2 np2) pa_nil na) (by decide) (by decide) na np, fun r s H env st Q E R h => ?_⟩
  refine ha.so r s H env st _ E R (h.bind.imp fun p st1 r1 H1 t1 R1 h1 x hx => ?_)
  split at h1
  · rename_i xs hs
    split at h1
    · rename_i ns hn
      split at h1
      · rename_i hl
        obtain ⟨l, vs, rfl, f, rl⟩ := sqlOf_ok R1 hx hs
        have := intsOf_ok rl hn
        subst this
        refine ⟨l, ns, rfl, f, hl, fun p c nP hcl => ?_⟩
        refine ⟨p, _, c, rfl, upd_same, by omega, fun ms p' hasc hmem hlen nP' => ?_⟩
        have e : ms = sortU ns := asc_only hasc (sortU_asc ns) fun k => by
          rw [hmem k, sortU_mem]; exact decide_eq_true_iff
        subst e
        have R2 := R1.new1 (o := SetO X.w p (fun j => decide (j ∈ ns)) c) nP
        exact h1 r1 _ ((Step.new1 nP).trans (Step.new1 nP')) (R2.new1 nP') _ (Rep.newLst R2 nP' (repL_ints _))
      · exact h1.elim
    · exact h1.elim
  · exact h1.elim
theorem ev_sortSet {d : DE} {env : PEnv} {st : Store} {p : PV} {l : List Int} (h : d env st = .ok p st) (hs : sqlOf st p = some (l.map .int)) (hl : l.length ≤ 60) : sortSetD d env st = .ok (.lst ((sortU l).map .int)) st := by
  unfold sortSetD
  rw [h, Res.bind_ok]
  simp only [hs, intsOf_map, if_pos hl]
/-! ### t >= u, tuples of ints -/
def lexL (ns ms : List Int) : Bool := PySem.W.DatumOrd.lt (α := PySem.W.Tup Int) ⟨ns⟩ ⟨ms⟩
theorem lexL_lt : ∀ (ns ms : List Int), lexL ns ms = match ns, ms with
    | [], [] => false
    | [], _ :: _ => true
    | _ :: _, [] => false
    | x :: xs, y :: ys => if x = y then lexL xs ys else decide (x < y)
  | [], [] => rfl
  | [], _ :: _ => rfl
  | _ :: _, [] => rfl
  | x :: xs, y :: ys => rfl
def rGeT (K : PySem.W.Frag) : R2 := fun x y H Q => ∃ (a b : Addr) (ns ms : List Int), x = V.ref a ∧ y = V.ref b ∧ SqT K H a (ns.map V.int) ∧ SqT K H b (ms.map V.int) ∧ Q (.bl (!lexL ns ms)) H
theorem dpAll_ints {K : PySem.W.Frag} {H : Hp} : ∀ ns : List Int, DpAll K H (ns.map V.int) (ns.map PyData.int)
  | [] => .nil
  | n :: ns => .cons (.int n) (dpAll_ints ns)
theorem op_geT {k : Nat} (hr : Room k X.A) : OpR X (compareOp .GtE) (rGeT X.K) := by
  intro pins s σ H x y v u Q I rx ry h
  obtain ⟨a, b, ns, ms, rfl, rfl, ha, hb, q⟩ := h
  obtain ⟨as, r1⟩ := Dp.reads I (.tuple (ns.map .int)) _ _ (.tup ha (dpAll_ints ns)) rx
  obtain ⟨bs, r2⟩ := Dp.reads I (.tuple (ms.map .int)) _ _ (.tup hb (dpAll_ints ms)) ry
  have e : PySem.W.dataLt (.tuple (ns.map .int)) (.tuple (ms.map .int)) = lexL ns ms := PySem.W.DatumOrd.lt_eq (α := PySem.W.Tup Int) ⟨ns⟩ ⟨ms⟩
  refine PySem.W.ge_data r1 r2 (PySem.W.DatumOrd.alike (α := PySem.W.Tup Int) ⟨ns⟩ ⟨ms⟩) (fun z => by cases z) ?_ ?_
  · have h1 := hr.units
    have h2 := depth_ints ns
    have h3 : (PyData.tuple (ns.map .int)).depth ≤ 2 := by simp only [PyData.depth]; omega
    omega
  · rw [e]; exact ⟨.bl (!lexL ns ms), H, I, rfl, q⟩
def geT : PV → PV → M PV := fun p q st => match p, q with
  | .tup i, .tup j => match intsOf i, intsOf j with
    | some ns, some ms => .ok (.bl (!lexL ns ms)) st
    | _, _ => .stuck
  | _, _ => .stuck
theorem sop_geT {G : GC} : SOp G (rGeT G.K) geT := by
  intro r H st p q x y E Q R hx hy h
  unfold geT at h
  split at h
  · rename_i i j
    split at h
    · rename_i ns ms h1 h2
      obtain ⟨a, vs, e1, f1, l1⟩ := tupOf_ok hx rfl
      obtain ⟨b, ws, e2, f2, l2⟩ := tupOf_ok hy rfl
      have q1 := intsOf_ok l1 h1
      have q2 := intsOf_ok l2 h2
      subst q1; subst q2
      exact ⟨a, b, ns, ms, e1, e2, f1.sq, f2.sq, h r H Step.refl R _ rep_bl⟩
    · exact h.elim
  · exact h.elim
theorem ev_geT {a b : List Int} {st : Store} : geT (.tup (a.map .int)) (.tup (b.map .int)) st = .ok (.bl (!lexL a b)) st := by
  unfold geT
  simp only [intsOf_map]
end CD

set_option Elab.async false
set_option linter.all false
set_option maxRecDepth 100000
set_option maxHeartbeats 4000000
/-! ### zip of four: its seven new cells stand one behind the other, from p on, behind all that there was -/
namespace PySem
open Sem (wp)
abbrev Tup4 (h : Heap) (T : Addr) (x1 x2 x3 x4 : Value) : Prop := h.get? T = some { cls := .type "tuple", data := .seq #[x1, x2, x3, x4] }
theorem apN {x y : Nat} (h : x < y ∨ y < x) : @Ne Addr x y := fun e => by
  have e' : x = y := e
  omega
theorem ap2 {x y z : Nat} (h1 : x < y ∨ y < x) (h2 : x < z ∨ z < x) : ¬ @Membership.mem Addr (List Addr) _ [y, z] x := fun e => by
  rcases List.mem_cons.mp e with e | e
  · exact apN h1 e
  · rcases List.mem_cons.mp e with e | e
    · exact apN h2 e
    · cases e
section
variable {prog : Program} {w : World} {A : Around} {E : Value → Shared → Prop} {s : Shared} {p a b c e : Nat} {n1 n2 n3 n4 i : Nat} {P1 P2 P3 P4 : Nat → Value → Prop} {St1 St2 St3 St4 : Nat → Heap → Prop} {u1 u2 u3 u4 : Value}
theorem put4 {T : Addr} {x : Value} {k : Nat} {Q : Unit → Shared → Prop} (hT : Tup4 s.heap T u1 u2 u3 u4)
    (h : ∀ h', h'.get? T = some { cls := .type "tuple", data := .seq ((#[u1, u2, u3, u4] : Array Value).setIfInBounds k x) } → Heap.SameBut T s.heap h' → Q () { s with heap := h' }) : wpAny (model prog w) A (updateSeq T (·.setIfInBounds k x)) Q E s := by
  refine wpAny_updateSeq hT rfl (h _ ?_ (Heap.SameBut.update ..)); rw [Heap.get?_update_self _ hT rfl]; simp [Obj.mapSeq]

theorem next4_item {AR : Around} {Q : Value → Shared → Prop} (D1 : Draws prog w AR p [p, a] n1 P1 St1) (D2 : Draws prog w AR (p + 1) [(p + 1), b] n2 P2 St2) (D3 : Draws prog w AR (p + 2) [(p + 2), c] n3 P3 St3) (D4 : Draws prog w AR (p + 3) [(p + 3), e] n4 P4 St4) (l1 : a < p) (l2 : b < p) (l3 : c < p) (l4 : e < p)
    (hz : IsZip s.heap (p + 6) (p + 4) (p + 5) .none) (hTI : Tup4 s.heap (p + 4) (.ref p) (.ref (p + 1)) (.ref (p + 2)) (.ref (p + 3))) (hTO : Tup4 s.heap (p + 5) u1 u2 u3 u4) (st1 : St1 i s.heap) (st2 : St2 i s.heap) (st3 : St3 i s.heap) (st4 : St4 i s.heap) (hlt1 : i < n1) (hlt2 : i < n2) (hlt3 : i < n3) (hlt4 : i < n4)
    (hQ : ∀ x1 x2 x3 x4 h' tk, P1 i x1 → P2 i x2 → P3 i x3 → P4 i x4 → IsZip h' (p + 6) (p + 4) (p + 5) (rawInt s.heap.objs.size) → Tup4 h' (p + 5) x1 x2 x3 x4 → St1 (i + 1) h' → St2 (i + 1) h' → St3 (i + 1) h' → St4 (i + 1) h' → Tup4 h' s.heap.objs.size x1 x2 x3 x4 → h'.objs.size = s.heap.objs.size + 1 →
      (∀ c o, c ≠ (p + 6) → c ≠ (p + 5) → c ≠ p → c ≠ (p + 1) → c ≠ (p + 2) → c ≠ (p + 3) → s.heap.get? c = some o → h'.get? c = some o) → Q (.ref s.heap.objs.size) { s with heap := h', toks := tk }) :
    wpAny (model prog w) AR (Builtin.«zip.__next__» ⟨[.ref (p + 6)], []⟩) (fun fin s' => ∃ v, fin = .done (.ret v) ∧ Q v s') E s := by
  obtain ⟨hp, g, d, tk0, os⟩ := s
  show wpAny _ _ (field (.ref (p + 6)) 2 >>= _) _ _ _; refine wpAny_bind (wpAny_field hz rfl (x := .bool false) rfl ?_)
  show wpAny _ _ (field (.ref (p + 6)) 3 >>= _) _ _ _; refine wpAny_bind (wpAny_field hz rfl (x := .ref (p + 4)) rfl (wpAny_bind (wpAny_seqItems hTI rfl ?_)))
  show wpAny _ _ (Builtin.SmallTypes.ownedTupleIsFree (.ref (p + 6)) >>= _) _ _ _; refine wpAny_bind ?_; unfold Builtin.SmallTypes.ownedTupleIsFree
  refine wpAny_bind (wpAny_field hz rfl (x := .none) rfl (wpAny_pure ?_)); simp only [if_true]; refine wpAny_bind (wpAny_rule (wpAny_bind (wpAny_field hz rfl (x := .ref (p + 5)) rfl ?_)))
  refine wpAny_bind (wpAny_setField_rec hz (by simp) fun g0 hz0 hs0 => ?_); replace hz0 : IsZip g0 (p + 6) (p + 4) (p + 5) .ellipsis := hz0; replace hs0 : Heap.SameBut (p + 6) hp g0 := hs0
  have T0 : Tup4 g0 (p + 5) u1 u2 u3 u4 := hs0.extBut _ _ (by first | exact apN (by omega) | exact ap2 (by omega) (by omega)) hTO
  have S1 := D1.over st1 hs0 (by first | exact apN (by omega) | exact ap2 (by omega) (by omega))
  have S2 := D2.over st2 hs0 (by first | exact apN (by omega) | exact ap2 (by omega) (by omega))
  have S3 := D3.over st3 hs0 (by first | exact apN (by omega) | exact ap2 (by omega) (by omega))
  have S4 := D4.over st4 hs0 (by first | exact apN (by omega) | exact ap2 (by omega) (by omega))
  have K0 : ∀ c o, c ≠ (p + 6) → c ≠ (p + 5) → c ≠ p → c ≠ (p + 1) → c ≠ (p + 2) → c ≠ (p + 3) → hp.get? c = some o → g0.get? c = some o := fun c o cz cT c1 c2 c3 c4 e => hs0.extBut _ _ cz e
  have Y0 : g0.objs.size = hp.objs.size := hs0.1
  refine wpAny_bind ?_; simp only [List.zipIdx_cons, List.zipIdx_nil, List.forIn_cons, List.forIn_nil]
  refine wpAny_bind (wpAny_bind (wpAny_onRaise ?_)); show wpAny _ _ (Builtin.SmallTypes.nextOf (.ref p) >>= _) _ _ ⟨g0, g, d, tk0, os⟩
  refine wpAny_bind (D1.item i _ _ _ hlt1 S1 fun x1 p1 tk1 hx1 S1' hp1 => wpAny_pure ?_); replace hp1 : Heap.SameBut p g0 p1 := hp1
  have zp1 : IsZip p1 (p + 6) (p + 4) (p + 5) .ellipsis := hp1.extBut _ _ (by first | exact apN (by omega) | exact ap2 (by omega) (by omega)) hz0; have U1 : Tup4 p1 (p + 5) u1 u2 u3 u4 := hp1.extBut _ _ (by first | exact apN (by omega) | exact ap2 (by omega) (by omega)) T0
  refine wpAny_bind (wpAny_seqItems (s := ⟨p1, g, d, tk1, os⟩) U1 rfl (wpAny_bind (put4 (s := ⟨p1, g, d, tk1, os⟩) U1 fun g1 T1 hs1 => ?_))); replace T1 : Tup4 g1 (p + 5) x1 u2 u3 u4 := T1; replace hs1 : Heap.SameBut (p + 5) p1 g1 := hs1
  have hz1 : IsZip g1 (p + 6) (p + 4) (p + 5) .ellipsis := hs1.extBut _ _ (by first | exact apN (by omega) | exact ap2 (by omega) (by omega)) zp1; have Y1 : g1.objs.size = hp.objs.size := by rw [hs1.1, hp1.1, Y0]
  have K1 : ∀ c o, c ≠ (p + 6) → c ≠ (p + 5) → c ≠ p → c ≠ (p + 1) → c ≠ (p + 2) → c ≠ (p + 3) → hp.get? c = some o → g1.get? c = some o := fun c o cz cT c1 c2 c3 c4 e => hs1.extBut _ _ cT (hp1.extBut _ _ c1 (K0 c o cz cT c1 c2 c3 c4 e))
  replace S1 := D1.over S1' hs1 (by first | exact apN (by omega) | exact ap2 (by omega) (by omega))
  replace S2 := D2.over (D2.over S2 hp1 (by first | exact apN (by omega) | exact ap2 (by omega) (by omega))) hs1 (by first | exact apN (by omega) | exact ap2 (by omega) (by omega))
  replace S3 := D3.over (D3.over S3 hp1 (by first | exact apN (by omega) | exact ap2 (by omega) (by omega))) hs1 (by first | exact apN (by omega) | exact ap2 (by omega) (by omega))
  replace S4 := D4.over (D4.over S4 hp1 (by first | exact apN (by omega) | exact ap2 (by omega) (by omega))) hs1 (by first | exact apN (by omega) | exact ap2 (by omega) (by omega))
  refine wpAny_bind (wpAny_letGo (wpAny_pure ?_))
  refine wpAny_bind (wpAny_bind (wpAny_onRaise ?_)); show wpAny _ _ (Builtin.SmallTypes.nextOf (.ref (p + 1)) >>= _) _ _ ⟨g1, g, d, tk1, os⟩
  refine wpAny_bind (D2.item i _ _ _ hlt2 S2 fun x2 p2 tk2 hx2 S2' hp2 => wpAny_pure ?_); replace hp2 : Heap.SameBut (p + 1) g1 p2 := hp2
  have zp2 : IsZip p2 (p + 6) (p + 4) (p + 5) .ellipsis := hp2.extBut _ _ (by first | exact apN (by omega) | exact ap2 (by omega) (by omega)) hz1; have U2 : Tup4 p2 (p + 5) x1 u2 u3 u4 := hp2.extBut _ _ (by first | exact apN (by omega) | exact ap2 (by omega) (by omega)) T1
  refine wpAny_bind (wpAny_seqItems (s := ⟨p2, g, d, tk2, os⟩) U2 rfl (wpAny_bind (put4 (s := ⟨p2, g, d, tk2, os⟩) U2 fun g2 T2 hs2 => ?_))); replace T2 : Tup4 g2 (p + 5) x1 x2 u3 u4 := T2; replace hs2 : Heap.SameBut (p + 5) p2 g2 := hs2
  have hz2 : IsZip g2 (p + 6) (p + 4) (p + 5) .ellipsis := hs2.extBut _ _ (by first | exact apN (by omega) | exact ap2 (by omega) (by omega)) zp2; have Y2 : g2.objs.size = hp.objs.size := by rw [hs2.1, hp2.1, Y1]
  have K2 : ∀ c o, c ≠ (p + 6) → c ≠ (p + 5) → c ≠ p → c ≠ (p + 1) → c ≠ (p + 2) → c ≠ (p + 3) → hp.get? c = some o → g2.get? c = some o := fun c o cz cT c1 c2 c3 c4 e => hs2.extBut _ _ cT (hp2.extBut _ _ c2 (K1 c o cz cT c1 c2 c3 c4 e))
  replace S1 := D1.over (D1.over S1 hp2 (by first | exact apN (by omega) | exact ap2 (by omega) (by omega))) hs2 (by first | exact apN (by omega) | exact ap2 (by omega) (by omega))
  replace S2 := D2.over S2' hs2 (by first | exact apN (by omega) | exact ap2 (by omega) (by omega))
  replace S3 := D3.over (D3.over S3 hp2 (by first | exact apN (by omega) | exact ap2 (by omega) (by omega))) hs2 (by first | exact apN (by omega) | exact ap2 (by omega) (by omega))
  replace S4 := D4.over (D4.over S4 hp2 (by first | exact apN (by omega) | exact ap2 (by omega) (by omega))) hs2 (by first | exact apN (by omega) | exact ap2 (by omega) (by omega))
  refine wpAny_bind (wpAny_letGo (wpAny_pure ?_))
  refine wpAny_bind (wpAny_bind (wpAny_onRaise ?_)); show wpAny _ _ (Builtin.SmallTypes.nextOf (.ref (p + 2)) >>= _) _ _ ⟨g2, g, d, tk2, os⟩
  refine wpAny_bind (D3.item i _ _ _ hlt3 S3 fun x3 p3 tk3 hx3 S3' hp3 => wpAny_pure ?_); replace hp3 : Heap.SameBut (p + 2) g2 p3 := hp3
  have zp3 : IsZip p3 (p + 6) (p + 4) (p + 5) .ellipsis := hp3.extBut _ _ (by first | exact apN (by omega) | exact ap2 (by omega) (by omega)) hz2; have U3 : Tup4 p3 (p + 5) x1 x2 u3 u4 := hp3.extBut _ _ (by first | exact apN (by omega) | exact ap2 (by omega) (by omega)) T2
  refine wpAny_bind (wpAny_seqItems (s := ⟨p3, g, d, tk3, os⟩) U3 rfl (wpAny_bind (put4 (s := ⟨p3, g, d, tk3, os⟩) U3 fun g3 T3 hs3 => ?_))); replace T3 : Tup4 g3 (p + 5) x1 x2 x3 u4 := T3; replace hs3 : Heap.SameBut (p + 5) p3 g3 := hs3
  have hz3 : IsZip g3 (p + 6) (p + 4) (p + 5) .ellipsis := hs3.extBut _ _ (by first | exact apN (by omega) | exact ap2 (by omega) (by omega)) zp3; have Y3 : g3.objs.size = hp.objs.size := by rw [hs3.1, hp3.1, Y2]
  have K3 : ∀ c o, c ≠ (p + 6) → c ≠ (p + 5) → c ≠ p → c ≠ (p + 1) → c ≠ (p + 2) → c ≠ (p + 3) → hp.get? c = some o → g3.get? c = some o := fun c o cz cT c1 c2 c3 c4 e => hs3.extBut _ _ cT (hp3.extBut _ _ c3 (K2 c o cz cT c1 c2 c3 c4 e))
  replace S1 := D1.over (D1.over S1 hp3 (by first | exact apN (by omega) | exact ap2 (by omega) (by omega))) hs3 (by first | exact apN (by omega) | exact ap2 (by omega) (by omega))
  replace S2 := D2.over (D2.over S2 hp3 (by first | exact apN (by omega) | exact ap2 (by omega) (by omega))) hs3 (by first | exact apN (by omega) | exact ap2 (by omega) (by omega))
  replace S3 := D3.over S3' hs3 (by first | exact apN (by omega) | exact ap2 (by omega) (by omega))
  replace S4 := D4.over (D4.over S4 hp3 (by first | exact apN (by omega) | exact ap2 (by omega) (by omega))) hs3 (by first | exact apN (by omega) | exact ap2 (by omega) (by omega))
  refine wpAny_bind (wpAny_letGo (wpAny_pure ?_))
  refine wpAny_bind (wpAny_bind (wpAny_onRaise ?_)); show wpAny _ _ (Builtin.SmallTypes.nextOf (.ref (p + 3)) >>= _) _ _ ⟨g3, g, d, tk3, os⟩
  refine wpAny_bind (D4.item i _ _ _ hlt4 S4 fun x4 p4 tk4 hx4 S4' hp4 => wpAny_pure ?_); replace hp4 : Heap.SameBut (p + 3) g3 p4 := hp4
  have zp4 : IsZip p4 (p + 6) (p + 4) (p + 5) .ellipsis := hp4.extBut _ _ (by first | exact apN (by omega) | exact ap2 (by omega) (by omega)) hz3; have U4 : Tup4 p4 (p + 5) x1 x2 x3 u4 := hp4.extBut _ _ (by first | exact apN (by omega) | exact ap2 (by omega) (by omega)) T3
  refine wpAny_bind (wpAny_seqItems (s := ⟨p4, g, d, tk4, os⟩) U4 rfl (wpAny_bind (put4 (s := ⟨p4, g, d, tk4, os⟩) U4 fun g4 T4 hs4 => ?_))); replace T4 : Tup4 g4 (p + 5) x1 x2 x3 x4 := T4; replace hs4 : Heap.SameBut (p + 5) p4 g4 := hs4
  have hz4 : IsZip g4 (p + 6) (p + 4) (p + 5) .ellipsis := hs4.extBut _ _ (by first | exact apN (by omega) | exact ap2 (by omega) (by omega)) zp4; have Y4 : g4.objs.size = hp.objs.size := by rw [hs4.1, hp4.1, Y3]
  have K4 : ∀ c o, c ≠ (p + 6) → c ≠ (p + 5) → c ≠ p → c ≠ (p + 1) → c ≠ (p + 2) → c ≠ (p + 3) → hp.get? c = some o → g4.get? c = some o := fun c o cz cT c1 c2 c3 c4 e => hs4.extBut _ _ cT (hp4.extBut _ _ c4 (K3 c o cz cT c1 c2 c3 c4 e))
  replace S1 := D1.over (D1.over S1 hp4 (by first | exact apN (by omega) | exact ap2 (by omega) (by omega))) hs4 (by first | exact apN (by omega) | exact ap2 (by omega) (by omega))
  replace S2 := D2.over (D2.over S2 hp4 (by first | exact apN (by omega) | exact ap2 (by omega) (by omega))) hs4 (by first | exact apN (by omega) | exact ap2 (by omega) (by omega))
  replace S3 := D3.over (D3.over S3 hp4 (by first | exact apN (by omega) | exact ap2 (by omega) (by omega))) hs4 (by first | exact apN (by omega) | exact ap2 (by omega) (by omega))
  replace S4 := D4.over S4' hs4 (by first | exact apN (by omega) | exact ap2 (by omega) (by omega))
  refine wpAny_bind (wpAny_letGo (wpAny_pure (wpAny_pure ?_)))
  refine wpAny_bind (wpAny_seqItems (s := ⟨g4, g, d, tk4, os⟩) T4 rfl (wpAny_bind (wpAny_newTuple ?_))); have zlt : (p + 6) < g4.objs.size := Heap.lt_size hz4
  show wpAny _ _ (Builtin.SmallTypes.ownedTupleHandOut (.ref (p + 6)) (.ref g4.objs.size) >>= _) _ _ ⟨g4.push { cls := .type "tuple", data := .seq #[x1, x2, x3, x4] }, g, d, tk4, os⟩
  refine wpAny_bind ?_; unfold Builtin.SmallTypes.ownedTupleHandOut
  have hz5 : IsZip (g4.push { cls := .type "tuple", data := .seq #[x1, x2, x3, x4] }) (p + 6) (p + 4) (p + 5) .ellipsis := Heap.get?_push_of_some _ hz4
  refine wpAny_bind (wpAny_setField_rec hz5 (by simp) fun g6 hz6 hs6 => ?_); replace hz6 : IsZip g6 (p + 6) (p + 4) (p + 5) (rawInt g4.objs.size) := hz6
  refine wpAny_setField_rec hz6 (by simp) fun g7 hz7 hs7 => ?_; replace hz7 : IsZip g7 (p + 6) (p + 4) (p + 5) (rawInt g4.objs.size) := hz7
  replace hs6 : Heap.SameBut (p + 6) (g4.push { cls := .type "tuple", data := .seq #[x1, x2, x3, x4] }) g6 := hs6; replace hs7 : Heap.SameBut (p + 6) g6 g7 := hs7
  have up : ∀ q o, q ≠ (p + 6) → g4.get? q = some o → g7.get? q = some o := fun q o nq h => hs7.extBut _ _ nq (hs6.extBut _ _ nq (Heap.get?_push_of_some _ h))
  have hT7 : Tup4 g7 g4.objs.size x1 x2 x3 x4 := hs7.extBut _ _ (Nat.ne_of_gt zlt) (hs6.extBut _ _ (Nat.ne_of_gt zlt) (Heap.get?_push_size _ rfl))
  have hl7 : g7.objs.size = g4.objs.size + 1 := by rw [hs7.1, hs6.1, Heap.size_push]
  rw [Y4] at hz7 hT7 hl7; refine wpAny_pure ⟨_, rfl, ?_⟩; show Q (.ref g4.objs.size) ⟨g7, g, d, tk4, os⟩; rw [Y4]
  have fr : ∀ (q : Nat) (f : List Nat), (p + 6) ∉ f → q ∈ f → ∀ o, g4.get? q = some o → g7.get? q = some o := fun q f h1 h2 o h => up q o (fun z => h1 (z ▸ h2)) h
  exact hQ x1 x2 x3 x4 g7 tk4 hx1 hx2 hx3 hx4 hz7 (up _ _ (by first | exact apN (by omega) | exact ap2 (by omega) (by omega)) T4) (D1.frame _ _ _ S1 fun q hq => fr q _ (by first | exact apN (by omega) | exact ap2 (by omega) (by omega)) hq) (D2.frame _ _ _ S2 fun q hq => fr q _ (by first | exact apN (by omega) | exact ap2 (by omega) (by omega)) hq) (D3.frame _ _ _ S3 fun q hq => fr q _ (by first | exact apN (by omega) | exact ap2 (by omega) (by omega)) hq) (D4.frame _ _ _ S4 fun q hq => fr q _ (by first | exact apN (by omega) | exact ap2 (by omega) (by omega)) hq) hT7 hl7 fun c o cz cT c1 c2 c3 c4 h => up c o cz (K4 c o cz cT c1 c2 c3 c4 h)
theorem next4_end {AR : Around} {Q : Fin → Shared → Prop} (D1 : Draws prog w AR p [p, a] n1 P1 St1) (D2 : Draws prog w AR (p + 1) [(p + 1), b] n2 P2 St2) (D3 : Draws prog w AR (p + 2) [(p + 2), c] n3 P3 St3) (D4 : Draws prog w AR (p + 3) [(p + 3), e] n4 P4 St4) (l1 : a < p) (l2 : b < p) (l3 : c < p) (l4 : e < p)
    (hz : IsZip s.heap (p + 6) (p + 4) (p + 5) .none) (hTI : Tup4 s.heap (p + 4) (.ref p) (.ref (p + 1)) (.ref (p + 2)) (.ref (p + 3))) (hTO : Tup4 s.heap (p + 5) u1 u2 u3 u4) (st1 : St1 i s.heap) (st2 : St2 i s.heap) (st3 : St3 i s.heap) (st4 : St4 i s.heap) (hle1 : i ≤ n1) (hle2 : i ≤ n2) (hle3 : i ≤ n3) (hle4 : i ≤ n4) (hend : i = n1 ∨ i = n2 ∨ i = n3 ∨ i = n4)
    (hE : ∀ h' tk ex, (∀ c o, c ≠ (p + 6) → c ≠ (p + 5) → c ≠ p → c ≠ (p + 1) → c ≠ (p + 2) → c ≠ (p + 3) → s.heap.get? c = some o → h'.get? c = some o) → (∃ o, h'.get? ex = some o ∧ o.cls = .type "StopIteration") → E (.ref ex) { s with heap := h', toks := tk }) :
    wpAny (model prog w) AR (Builtin.«zip.__next__» ⟨[.ref (p + 6)], []⟩) Q E s := by
  obtain ⟨hp, g, d, tk0, os⟩ := s
  show wpAny _ _ (field (.ref (p + 6)) 2 >>= _) _ _ _; refine wpAny_bind (wpAny_field hz rfl (x := .bool false) rfl ?_)
  show wpAny _ _ (field (.ref (p + 6)) 3 >>= _) _ _ _; refine wpAny_bind (wpAny_field hz rfl (x := .ref (p + 4)) rfl (wpAny_bind (wpAny_seqItems hTI rfl ?_)))
  show wpAny _ _ (Builtin.SmallTypes.ownedTupleIsFree (.ref (p + 6)) >>= _) _ _ _; refine wpAny_bind ?_; unfold Builtin.SmallTypes.ownedTupleIsFree
  refine wpAny_bind (wpAny_field hz rfl (x := .none) rfl (wpAny_pure ?_)); simp only [if_true]; refine wpAny_bind (wpAny_rule (wpAny_bind (wpAny_field hz rfl (x := .ref (p + 5)) rfl ?_)))
  refine wpAny_bind (wpAny_setField_rec hz (by simp) fun g0 hz0 hs0 => ?_); replace hz0 : IsZip g0 (p + 6) (p + 4) (p + 5) .ellipsis := hz0; replace hs0 : Heap.SameBut (p + 6) hp g0 := hs0
  have T0 : Tup4 g0 (p + 5) u1 u2 u3 u4 := hs0.extBut _ _ (by first | exact apN (by omega) | exact ap2 (by omega) (by omega)) hTO
  have S1 := D1.over st1 hs0 (by first | exact apN (by omega) | exact ap2 (by omega) (by omega))
  have S2 := D2.over st2 hs0 (by first | exact apN (by omega) | exact ap2 (by omega) (by omega))
  have S3 := D3.over st3 hs0 (by first | exact apN (by omega) | exact ap2 (by omega) (by omega))
  have S4 := D4.over st4 hs0 (by first | exact apN (by omega) | exact ap2 (by omega) (by omega))
  have K0 : ∀ c o, c ≠ (p + 6) → c ≠ (p + 5) → c ≠ p → c ≠ (p + 1) → c ≠ (p + 2) → c ≠ (p + 3) → hp.get? c = some o → g0.get? c = some o := fun c o cz cT c1 c2 c3 c4 e => hs0.extBut _ _ cz e
  have Y0 : g0.objs.size = hp.objs.size := hs0.1
  refine wpAny_bind ?_; simp only [List.zipIdx_cons, List.zipIdx_nil, List.forIn_cons, List.forIn_nil]
  refine wpAny_bind (wpAny_bind (wpAny_onRaise ?_)); show wpAny _ _ (Builtin.SmallTypes.nextOf (.ref p) >>= _) _ _ ⟨g0, g, d, tk0, os⟩
  by_cases hlt1 : i < n1
  · refine wpAny_bind (D1.item i _ _ _ hlt1 S1 fun x1 p1 tk1 hx1 S1' hp1 => wpAny_pure ?_); replace hp1 : Heap.SameBut p g0 p1 := hp1
    have zp1 : IsZip p1 (p + 6) (p + 4) (p + 5) .ellipsis := hp1.extBut _ _ (by first | exact apN (by omega) | exact ap2 (by omega) (by omega)) hz0; have U1 : Tup4 p1 (p + 5) u1 u2 u3 u4 := hp1.extBut _ _ (by first | exact apN (by omega) | exact ap2 (by omega) (by omega)) T0
    refine wpAny_bind (wpAny_seqItems (s := ⟨p1, g, d, tk1, os⟩) U1 rfl (wpAny_bind (put4 (s := ⟨p1, g, d, tk1, os⟩) U1 fun g1 T1 hs1 => ?_))); replace T1 : Tup4 g1 (p + 5) x1 u2 u3 u4 := T1; replace hs1 : Heap.SameBut (p + 5) p1 g1 := hs1
    have hz1 : IsZip g1 (p + 6) (p + 4) (p + 5) .ellipsis := hs1.extBut _ _ (by first | exact apN (by omega) | exact ap2 (by omega) (by omega)) zp1; have Y1 : g1.objs.size = hp.objs.size := by rw [hs1.1, hp1.1, Y0]
    have K1 : ∀ c o, c ≠ (p + 6) → c ≠ (p + 5) → c ≠ p → c ≠ (p + 1) → c ≠ (p + 2) → c ≠ (p + 3) → hp.get? c = some o → g1.get? c = some o := fun c o cz cT c1 c2 c3 c4 e => hs1.extBut _ _ cT (hp1.extBut _ _ c1 (K0 c o cz cT c1 c2 c3 c4 e))
    replace S1 := D1.over S1' hs1 (by first | exact apN (by omega) | exact ap2 (by omega) (by omega))
    replace S2 := D2.over (D2.over S2 hp1 (by first | exact apN (by omega) | exact ap2 (by omega) (by omega))) hs1 (by first | exact apN (by omega) | exact ap2 (by omega) (by omega))
    replace S3 := D3.over (D3.over S3 hp1 (by first | exact apN (by omega) | exact ap2 (by omega) (by omega))) hs1 (by first | exact apN (by omega) | exact ap2 (by omega) (by omega))
    replace S4 := D4.over (D4.over S4 hp1 (by first | exact apN (by omega) | exact ap2 (by omega) (by omega))) hs1 (by first | exact apN (by omega) | exact ap2 (by omega) (by omega))
    refine wpAny_bind (wpAny_letGo (wpAny_pure ?_))
    refine wpAny_bind (wpAny_bind (wpAny_onRaise ?_)); show wpAny _ _ (Builtin.SmallTypes.nextOf (.ref (p + 1)) >>= _) _ _ ⟨g1, g, d, tk1, os⟩
    by_cases hlt2 : i < n2
    · refine wpAny_bind (D2.item i _ _ _ hlt2 S2 fun x2 p2 tk2 hx2 S2' hp2 => wpAny_pure ?_); replace hp2 : Heap.SameBut (p + 1) g1 p2 := hp2
      have zp2 : IsZip p2 (p + 6) (p + 4) (p + 5) .ellipsis := hp2.extBut _ _ (by first | exact apN (by omega) | exact ap2 (by omega) (by omega)) hz1; have U2 : Tup4 p2 (p + 5) x1 u2 u3 u4 := hp2.extBut _ _ (by first | exact apN (by omega) | exact ap2 (by omega) (by omega)) T1
      refine wpAny_bind (wpAny_seqItems (s := ⟨p2, g, d, tk2, os⟩) U2 rfl (wpAny_bind (put4 (s := ⟨p2, g, d, tk2, os⟩) U2 fun g2 T2 hs2 => ?_))); replace T2 : Tup4 g2 (p + 5) x1 x2 u3 u4 := T2; replace hs2 : Heap.SameBut (p + 5) p2 g2 := hs2
      have hz2 : IsZip g2 (p + 6) (p + 4) (p + 5) .ellipsis := hs2.extBut _ _ (by first | exact apN (by omega) | exact ap2 (by omega) (by omega)) zp2; have Y2 : g2.objs.size = hp.objs.size := by rw [hs2.1, hp2.1, Y1]
      have K2 : ∀ c o, c ≠ (p + 6) → c ≠ (p + 5) → c ≠ p → c ≠ (p + 1) → c ≠ (p + 2) → c ≠ (p + 3) → hp.get? c = some o → g2.get? c = some o := fun c o cz cT c1 c2 c3 c4 e => hs2.extBut _ _ cT (hp2.extBut _ _ c2 (K1 c o cz cT c1 c2 c3 c4 e))
      replace S1 := D1.over (D1.over S1 hp2 (by first | exact apN (by omega) | exact ap2 (by omega) (by omega))) hs2 (by first | exact apN (by omega) | exact ap2 (by omega) (by omega))
      replace S2 := D2.over S2' hs2 (by first | exact apN (by omega) | exact ap2 (by omega) (by omega))
      replace S3 := D3.over (D3.over S3 hp2 (by first | exact apN (by omega) | exact ap2 (by omega) (by omega))) hs2 (by first | exact apN (by omega) | exact ap2 (by omega) (by omega))
      replace S4 := D4.over (D4.over S4 hp2 (by first | exact apN (by omega) | exact ap2 (by omega) (by omega))) hs2 (by first | exact apN (by omega) | exact ap2 (by omega) (by omega))
      refine wpAny_bind (wpAny_letGo (wpAny_pure ?_))
      refine wpAny_bind (wpAny_bind (wpAny_onRaise ?_)); show wpAny _ _ (Builtin.SmallTypes.nextOf (.ref (p + 2)) >>= _) _ _ ⟨g2, g, d, tk2, os⟩
      by_cases hlt3 : i < n3
      · refine wpAny_bind (D3.item i _ _ _ hlt3 S3 fun x3 p3 tk3 hx3 S3' hp3 => wpAny_pure ?_); replace hp3 : Heap.SameBut (p + 2) g2 p3 := hp3
        have zp3 : IsZip p3 (p + 6) (p + 4) (p + 5) .ellipsis := hp3.extBut _ _ (by first | exact apN (by omega) | exact ap2 (by omega) (by omega)) hz2; have U3 : Tup4 p3 (p + 5) x1 x2 u3 u4 := hp3.extBut _ _ (by first | exact apN (by omega) | exact ap2 (by omega) (by omega)) T2
        refine wpAny_bind (wpAny_seqItems (s := ⟨p3, g, d, tk3, os⟩) U3 rfl (wpAny_bind (put4 (s := ⟨p3, g, d, tk3, os⟩) U3 fun g3 T3 hs3 => ?_))); replace T3 : Tup4 g3 (p + 5) x1 x2 x3 u4 := T3; replace hs3 : Heap.SameBut (p + 5) p3 g3 := hs3
        have hz3 : IsZip g3 (p + 6) (p + 4) (p + 5) .ellipsis := hs3.extBut _ _ (by first | exact apN (by omega) | exact ap2 (by omega) (by omega)) zp3; have Y3 : g3.objs.size = hp.objs.size := by rw [hs3.1, hp3.1, Y2]
        have K3 : ∀ c o, c ≠ (p + 6) → c ≠ (p + 5) → c ≠ p → c ≠ (p + 1) → c ≠ (p + 2) → c ≠ (p + 3) → hp.get? c = some o → g3.get? c = some o := fun c o cz cT c1 c2 c3 c4 e => hs3.extBut _ _ cT (hp3.extBut _ _ c3 (K2 c o cz cT c1 c2 c3 c4 e))
        replace S1 := D1.over (D1.over S1 hp3 (by first | exact apN (by omega) | exact ap2 (by omega) (by omega))) hs3 (by first | exact apN (by omega) | exact ap2 (by omega) (by omega))
        replace S2 := D2.over (D2.over S2 hp3 (by first | exact apN (by omega) | exact ap2 (by omega) (by omega))) hs3 (by first | exact apN (by omega) | exact ap2 (by omega) (by omega))
        replace S3 := D3.over S3' hs3 (by first | exact apN (by omega) | exact ap2 (by omega) (by omega))
        replace S4 := D4.over (D4.over S4 hp3 (by first | exact apN (by omega) | exact ap2 (by omega) (by omega))) hs3 (by first | exact apN (by omega) | exact ap2 (by omega) (by omega))
        refine wpAny_bind (wpAny_letGo (wpAny_pure ?_))
        refine wpAny_bind (wpAny_bind (wpAny_onRaise ?_)); show wpAny _ _ (Builtin.SmallTypes.nextOf (.ref (p + 3)) >>= _) _ _ ⟨g3, g, d, tk3, os⟩
        have ei : i = n4 := by omega
        refine wpAny_bind (D4.done ⟨g3, g, d, tk3, os⟩ _ _ (ei ▸ S4) fun q ex hq ⟨oe, hoe, hce⟩ => ?_); replace hq : Heap.ExtBut (p + 3) g3 q := hq; replace hoe : q.get? ex = some oe := hoe
        have zq : IsZip q (p + 6) (p + 4) (p + 5) .ellipsis := hq _ _ (by first | exact apN (by omega) | exact ap2 (by omega) (by omega)) hz3; have nx : ex ≠ (p + 6) := fun x => by subst x; rw [zq] at hoe; cases hoe; simp at hce
        refine wpAny_setField_rec (s := ⟨q, g, d, tk3, os⟩) zq (by simp) fun q2 _ hq2 => ?_; replace hq2 : Heap.SameBut (p + 6) q q2 := hq2
        exact hE q2 tk3 ex (fun c o cz cT c1 c2 c3 c4 x => hq2.extBut _ _ cz (hq _ _ c4 (K3 c o cz cT c1 c2 c3 c4 x))) ⟨oe, hq2.extBut _ _ nx hoe, hce⟩
      · have ei : i = n3 := by omega
        refine wpAny_bind (D3.done ⟨g2, g, d, tk2, os⟩ _ _ (ei ▸ S3) fun q ex hq ⟨oe, hoe, hce⟩ => ?_); replace hq : Heap.ExtBut (p + 2) g2 q := hq; replace hoe : q.get? ex = some oe := hoe
        have zq : IsZip q (p + 6) (p + 4) (p + 5) .ellipsis := hq _ _ (by first | exact apN (by omega) | exact ap2 (by omega) (by omega)) hz2; have nx : ex ≠ (p + 6) := fun x => by subst x; rw [zq] at hoe; cases hoe; simp at hce
        refine wpAny_setField_rec (s := ⟨q, g, d, tk2, os⟩) zq (by simp) fun q2 _ hq2 => ?_; replace hq2 : Heap.SameBut (p + 6) q q2 := hq2
        exact hE q2 tk2 ex (fun c o cz cT c1 c2 c3 c4 x => hq2.extBut _ _ cz (hq _ _ c3 (K2 c o cz cT c1 c2 c3 c4 x))) ⟨oe, hq2.extBut _ _ nx hoe, hce⟩
    · have ei : i = n2 := by omega
      refine wpAny_bind (D2.done ⟨g1, g, d, tk1, os⟩ _ _ (ei ▸ S2) fun q ex hq ⟨oe, hoe, hce⟩ => ?_); replace hq : Heap.ExtBut (p + 1) g1 q := hq; replace hoe : q.get? ex = some oe := hoe
      have zq : IsZip q (p + 6) (p + 4) (p + 5) .ellipsis := hq _ _ (by first | exact apN (by omega) | exact ap2 (by omega) (by omega)) hz1; have nx : ex ≠ (p + 6) := fun x => by subst x; rw [zq] at hoe; cases hoe; simp at hce
      refine wpAny_setField_rec (s := ⟨q, g, d, tk1, os⟩) zq (by simp) fun q2 _ hq2 => ?_; replace hq2 : Heap.SameBut (p + 6) q q2 := hq2
      exact hE q2 tk1 ex (fun c o cz cT c1 c2 c3 c4 x => hq2.extBut _ _ cz (hq _ _ c2 (K1 c o cz cT c1 c2 c3 c4 x))) ⟨oe, hq2.extBut _ _ nx hoe, hce⟩
  · have ei : i = n1 := by omega
    refine wpAny_bind (D1.done ⟨g0, g, d, tk0, os⟩ _ _ (ei ▸ S1) fun q ex hq ⟨oe, hoe, hce⟩ => ?_); replace hq : Heap.ExtBut p g0 q := hq; replace hoe : q.get? ex = some oe := hoe
    have zq : IsZip q (p + 6) (p + 4) (p + 5) .ellipsis := hq _ _ (by first | exact apN (by omega) | exact ap2 (by omega) (by omega)) hz0; have nx : ex ≠ (p + 6) := fun x => by subst x; rw [zq] at hoe; cases hoe; simp at hce
    refine wpAny_setField_rec (s := ⟨q, g, d, tk0, os⟩) zq (by simp) fun q2 _ hq2 => ?_; replace hq2 : Heap.SameBut (p + 6) q q2 := hq2
    exact hE q2 tk0 ex (fun c o cz cT c1 c2 c3 c4 x => hq2.extBut _ _ cz (hq _ _ c1 (K0 c o cz cT c1 c2 c3 c4 x))) ⟨oe, hq2.extBut _ _ nx hoe, hce⟩
/-- the walk of four -/
theorem walk4 (D1 : Draws prog w A.in1 p [p, a] n1 P1 St1) (D2 : Draws prog w A.in1 (p + 1) [(p + 1), b] n2 P2 St2) (D3 : Draws prog w A.in1 (p + 2) [(p + 2), c] n3 P3 St3) (D4 : Draws prog w A.in1 (p + 3) [(p + 3), e] n4 P4 St4) (l1 : a < p) (l2 : b < p) (l3 : c < p) (l4 : e < p) : WalksT prog w A (p + 6) [p + 6, p + 4, p + 5, p, a, p + 1, b, p + 2, c, p + 3, e] [p + 6, p + 5, p, p + 1, p + 2, p + 3] (min (min (min n1 n2) n3) n4) (fun i vals => ∃ x1 x2 x3 x4, P1 i x1 ∧ P2 i x2 ∧ P3 i x3 ∧ P4 i x4 ∧ vals = #[x1, x2, x3, x4])
    (fun i h => IsZip h (p + 6) (p + 4) (p + 5) .none ∧ Tup4 h (p + 4) (.ref p) (.ref (p + 1)) (.ref (p + 2)) (.ref (p + 3)) ∧ (∃ u1 u2 u3 u4, Tup4 h (p + 5) u1 u2 u3 u4) ∧ St1 i h ∧ St2 i h ∧ St3 i h ∧ St4 i h)
    (fun i T h => IsZip h (p + 6) (p + 4) (p + 5) (rawInt T) ∧ Tup4 h (p + 4) (.ref p) (.ref (p + 1)) (.ref (p + 2)) (.ref (p + 3)) ∧ (∃ u1 u2 u3 u4, Tup4 h (p + 5) u1 u2 u3 u4) ∧ St1 (i + 1) h ∧ St2 (i + 1) h ∧ St3 (i + 1) h ∧ St4 (i + 1) h ∧ p + 6 < T) where
  sub := fun q hq => by
    simp only [List.mem_cons, List.not_mem_nil, or_false] at hq ⊢
    rcases hq with h | h | h | h | h | h <;> simp [h]
  frame := fun i h h' ⟨hz, hTI, ⟨u1, u2, u3, u4, hTO⟩, s1, s2, s3, s4⟩ hk => by
    have k : ∀ q : Nat, q ∈ [p + 6, p + 4, p + 5, p, a, p + 1, b, p + 2, c, p + 3, e] → ∀ o, h.get? q = some o → h'.get? q = some o := hk
    refine ⟨k _ (by simp) _ hz, k _ (by simp) _ hTI, ⟨u1, u2, u3, u4, k _ (by simp) _ hTO⟩, D1.frame _ _ _ s1 fun q hq => k q ?_, D2.frame _ _ _ s2 fun q hq => k q ?_, D3.frame _ _ _ s3 fun q hq => k q ?_, D4.frame _ _ _ s4 fun q hq => k q ?_⟩ <;> (simp only [List.mem_cons, List.not_mem_nil, or_false] at hq ⊢; rcases hq with h | h <;> simp [h])
  item := fun i s Q E hi ⟨hz, hTI, ⟨u1, u2, u3, u4, hTO⟩, s1, s2, s3, s4⟩ hQ => by
    have hT : s.TypeIs (.ref (p + 6)) "zip" := ⟨_, hz, rfl⟩
    have zl : p + 6 < s.heap.objs.size := Heap.lt_size hz
    unfold pyNext
    exact wpAny_bind (wpAny_attempt (wpAny_callSpecial?_slot (name := Str.ofString "__next__") hT F.slot_zip_next (wpAny_call_entry F.slot_zip_next hT F.entry_zip_next (next4_item D1 D2 D3 D4 l1 l2 l3 l4 hz hTI hTO s1 s2 s3 s4 (by omega) (by omega) (by omega) (by omega) fun x1 x2 x3 x4 h' tk y1 y2 y3 y4 b1 b2 d1 d2 d3 d4 b5 _ hk => wpAny_pure
      (hQ s.heap.objs.size #[x1, x2, x3, x4] h' tk ⟨x1, x2, x3, x4, y1, y2, y3, y4, rfl⟩ (Nat.le_refl _) ⟨_, b5, rfl, _, rfl⟩ ⟨b1, hk _ _ (by first | exact apN (by omega) | exact ap2 (by omega) (by omega)) (by first | exact apN (by omega) | exact ap2 (by omega) (by omega)) (by first | exact apN (by omega) | exact ap2 (by omega) (by omega)) (by first | exact apN (by omega) | exact ap2 (by omega) (by omega)) (by first | exact apN (by omega) | exact ap2 (by omega) (by omega)) (by first | exact apN (by omega) | exact ap2 (by omega) (by omega)) hTI, ⟨_, _, _, _, b2⟩, d1, d2, d3, d4, zl⟩
        fun q o nq h => by
          simp only [List.mem_cons, List.not_mem_nil, or_false, not_or] at nq
          exact hk q o nq.1 nq.2.1 nq.2.2.1 nq.2.2.2.1 nq.2.2.2.2.1 nq.2.2.2.2.2 h)) (F.args_zip_next_1 _))))
  go := fun elts k pos i T s Q E ⟨hz, hTI, ⟨u1, u2, u3, u4, hTO⟩, s1, s2, s3, s4, _⟩ hQ =>
    wpAny_letOwnedTupleGo_zip hz fun h' hz' hs' => hQ h' ⟨hz', hs'.extBut _ _ (by first | exact apN (by omega) | exact ap2 (by omega) (by omega)) hTI, ⟨u1, u2, u3, u4, hs'.extBut _ _ (by first | exact apN (by omega) | exact ap2 (by omega) (by omega)) hTO⟩, D1.over s1 hs' (by first | exact apN (by omega) | exact ap2 (by omega) (by omega)), D2.over s2 hs' (by first | exact apN (by omega) | exact ap2 (by omega) (by omega)), D3.over s3 hs' (by first | exact apN (by omega) | exact ap2 (by omega) (by omega)), D4.over s4 hs' (by first | exact apN (by omega) | exact ap2 (by omega) (by omega))⟩ fun q o nq h => hs'.extBut _ _ (fun x => nq (by simp [x])) h
  apart := fun i T h ⟨_, _, _, _, _, _, _, tl⟩ hT => by
    have tl' : p + 6 < (T : Nat) := tl
    simp only [List.mem_cons, List.not_mem_nil, or_false] at hT
    rcases hT with h | h | h | h | h | h <;> exact apN (by omega) h
  done := fun s Q E ⟨hz, hTI, ⟨u1, u2, u3, u4, hTO⟩, s1, s2, s3, s4⟩ hQ => by
    have hT : s.TypeIs (.ref (p + 6)) "zip" := ⟨_, hz, rfl⟩
    unfold pyNext
    refine wpAny_bind (wpAny_attempt (wpAny_callSpecial?_slot (name := Str.ofString "__next__") hT F.slot_zip_next (wpAny_call_entry F.slot_zip_next hT F.entry_zip_next (next4_end D1 D2 D3 D4 l1 l2 l3 l4 hz hTI hTO s1 s2 s3 s4 (by omega) (by omega) (by omega) (by omega) (by omega) fun h' tk ex hk ⟨o, ho, hc⟩ => ?_) (F.args_zip_next_1 _))))
    refine wpAny_bind (wpAny_isInstance (T := "StopIteration") (b := true) ⟨o, ho, hc⟩ isSubtype_stop (wpAny_pure (hQ _ _ fun q o nq h => ?_)))
    simp only [List.mem_cons, List.not_mem_nil, or_false, not_or] at nq
    exact hk q o nq.1 nq.2.1 nq.2.2.1 nq.2.2.2.1 nq.2.2.2.2.1 nq.2.2.2.2.2 h
  self := fun i s Q E hst hQ => wpAny_pyIter_zip hst.1 hQ
theorem goes4 {elts : List Expr} {x1 : Nat} {pos : Pos} (D1 : Draws prog w A.in1 p [p, a] n1 P1 St1) (D2 : Draws prog w A.in1 (p + 1) [(p + 1), b] n2 P2 St2) (D3 : Draws prog w A.in1 (p + 2) [(p + 2), c] n3 P3 St3) (D4 : Draws prog w A.in1 (p + 3) [(p + 3), e] n4 P4 St4) (l1 : a < p) (l2 : b < p) (l3 : c < p) (l4 : e < p) : GoesN prog w A (.Tuple elts x1 pos) (p + 6) [p + 6, p + 4, p + 5, p, a, p + 1, b, p + 2, c, p + 3, e] [p + 6, p + 5, p, p + 1, p + 2, p + 3] (min (min (min n1 n2) n3) n4)
    (fun i h₀ v h => ∃ T x y u t, v = .ref T ∧ h₀.objs.size ≤ T ∧ P1 i x ∧ P2 i y ∧ P3 i u ∧ P4 i t ∧ h.IsTuple T #[x, y, u, t]) (fun i h => IsZip h (p + 6) (p + 4) (p + 5) .none ∧ Tup4 h (p + 4) (.ref p) (.ref (p + 1)) (.ref (p + 2)) (.ref (p + 3)) ∧ (∃ u1 u2 u3 u4, Tup4 h (p + 5) u1 u2 u3 u4) ∧ St1 i h ∧ St2 i h ∧ St3 i h ∧ St4 i h) :=
  (GoesN.ofWalksT (walk4 D1 D2 D3 D4 l1 l2 l3 l4)).mono fun i h₀ v h _ ⟨T, vals, ev, hn, ⟨x, y, u, t, hx, hy, hu, ht, evs⟩, hT⟩ => ⟨T, x, y, u, t, ev, hn, hx, hy, hu, ht, evs ▸ hT⟩
end
/-! the start of a zip of four -/
abbrev pile4 (h : Heap) (o1 o2 o3 o4 : Obj) : Heap := ((((h.push o1).push o2).push o3).push o4)
abbrev itsT4 (h : Heap) (o1 o2 o3 o4 : Obj) : Heap := (pile4 h o1 o2 o3 o4).push { cls := .type "tuple", data := .seq #[.ref h.objs.size, .ref (h.push o1).objs.size, .ref ((h.push o1).push o2).objs.size, .ref (((h.push o1).push o2).push o3).objs.size] }
abbrev ownT4 (h : Heap) (o1 o2 o3 o4 : Obj) : Heap := (itsT4 h o1 o2 o3 o4).push { cls := .type "tuple", data := .seq #[.none, .none, .none, .none] }
abbrev zipO4 (h : Heap) (o1 o2 o3 o4 : Obj) : Heap := (ownT4 h o1 o2 o3 o4).push { cls := .type "zip", data := .fields #[.none, .bool false, .bool false, .ref (pile4 h o1 o2 o3 o4).objs.size, .ref (itsT4 h o1 o2 o3 o4).objs.size] }
theorem tc_zip4 (x1 x2 x3 x4 : Value) : checkTypeCall "zip" ⟨[x1, x2, x3, x4], []⟩ = pure () := by kernel_rfl
theorem nc_zip4 (x1 x2 x3 x4 : Value) : checkBuiltinCall "zip.__new__" ⟨[.type "zip", x1, x2, x3, x4], []⟩ = pure () := by kernel_rfl
theorem ar_zip4 (obj x1 x2 x3 x4 : Value) : argsOk "object.__init__" ⟨[obj, x1, x2, x3, x4], []⟩ := by unfold argsOk; kernel_rfl
theorem new_zip4 {v1 v2 v3 v4 : Value} {o1 o2 o3 o4 : Obj} {H1 H2 H3 H4 : Heap → Prop} (B1 : Begins v1 o1 H1) (B2 : Begins v2 o2 H2) (B3 : Begins v3 o3 H3) (B4 : Begins v4 o4 H4) :
    Meets (Builtin.«zip.__new__» ⟨[.type "zip", v1, v2, v3, v4], []⟩) (fun _ R s => (H1 s.heap ∧ H2 s.heap ∧ H3 s.heap ∧ H4 s.heap) ∧ R (.ok (.ret (.ref (ownT4 s.heap o1 o2 o3 o4).objs.size))) { s with heap := zipO4 s.heap o1 o2 o3 o4 }) :=
  .of_wp fun prog w A R s hh => by
    obtain ⟨h, g, d, tk, os⟩ := s; obtain ⟨⟨h1, h2, h3, h4⟩, hr⟩ := hh; have hsub := sub_zip
    have q1 : ∀ {A' : Around} {E : Value → Shared → Prop} {Q : Value → Shared → Prop}, Q (.ref h.objs.size) ⟨(h.push o1), g, d, tk, os⟩ → wpAny (model prog w) A' (pyIter v1) Q E ⟨h, g, d, tk, os⟩ := fun q => B1.iter prog w _ _ ⟨h, g, d, tk, os⟩ _ (B1.keeps _ _ h1 fun b o' e => e) q
    have q2 : ∀ {A' : Around} {E : Value → Shared → Prop} {Q : Value → Shared → Prop}, Q (.ref (h.push o1).objs.size) ⟨((h.push o1).push o2), g, d, tk, os⟩ → wpAny (model prog w) A' (pyIter v2) Q E ⟨(h.push o1), g, d, tk, os⟩ := fun q => B2.iter prog w _ _ ⟨(h.push o1), g, d, tk, os⟩ _ (B2.keeps _ _ h2 fun b o' e => (Heap.get?_push_of_some _ e)) q
    have q3 : ∀ {A' : Around} {E : Value → Shared → Prop} {Q : Value → Shared → Prop}, Q (.ref ((h.push o1).push o2).objs.size) ⟨(((h.push o1).push o2).push o3), g, d, tk, os⟩ → wpAny (model prog w) A' (pyIter v3) Q E ⟨((h.push o1).push o2), g, d, tk, os⟩ := fun q => B3.iter prog w _ _ ⟨((h.push o1).push o2), g, d, tk, os⟩ _ (B3.keeps _ _ h3 fun b o' e => (Heap.get?_push_of_some _ (Heap.get?_push_of_some _ e))) q
    have q4 : ∀ {A' : Around} {E : Value → Shared → Prop} {Q : Value → Shared → Prop}, Q (.ref (((h.push o1).push o2).push o3).objs.size) ⟨((((h.push o1).push o2).push o3).push o4), g, d, tk, os⟩ → wpAny (model prog w) A' (pyIter v4) Q E ⟨(((h.push o1).push o2).push o3), g, d, tk, os⟩ := fun q => B4.iter prog w _ _ ⟨(((h.push o1).push o2).push o3), g, d, tk, os⟩ _ (B4.keeps _ _ h4 fun b o' e => (Heap.get?_push_of_some _ (Heap.get?_push_of_some _ (Heap.get?_push_of_some _ e)))) q
    wp_walk using q1, q2, q3, q4
    exact ⟨_, rfl, hr⟩
section
variable {prog : Program} {w : World} {A : Around} {E : Value → Shared → Prop} {s : Shared}
theorem begin4 {v1 v2 v3 v4 : Value} {o1 o2 o3 o4 : Obj} {H1 H2 H3 H4 : Heap → Prop} {Q : Value → Shared → Prop} (B1 : Begins v1 o1 H1) (B2 : Begins v2 o2 H2) (B3 : Begins v3 o3 H3) (B4 : Begins v4 o4 H4) (h1 : H1 s.heap) (h2 : H2 s.heap) (h3 : H3 s.heap) (h4 : H4 s.heap)
    (hq : ∀ (p : Nat) h', p = s.heap.objs.size → IsZip h' (p + 6) (p + 4) (p + 5) .none → Tup4 h' (p + 4) (.ref p) (.ref (p + 1)) (.ref (p + 2)) (.ref (p + 3)) → Tup4 h' (p + 5) .none .none .none .none → h'.get? p = some o1 → h'.get? (p + 1) = some o2 → h'.get? (p + 2) = some o3 → h'.get? (p + 3) = some o4 →
      (∀ c o, s.heap.get? c = some o → h'.get? c = some o) → Q (.ref (p + 6)) { s with heap := h' }) : wpAny (model prog w) A (call (.type "zip") [v1, v2, v3, v4]) Q E s := by
  refine callType_new F.called_zip (by decide) (tc_zip4 _ _ _ _) (nc_zip4 _ _ _ _) (fun obj => ar_zip4 obj _ _ _ _) F.entry_zip_new (new_zip4 B1 B2 B3 B4) ⟨⟨h1, h2, h3, h4⟩, ?_⟩
  generalize s.heap = h at *
  have y1 : (h.push o1).objs.size = h.objs.size + 1 := Heap.size_push _ _
  have y2 : ((h.push o1).push o2).objs.size = h.objs.size + 2 := by rw [Heap.size_push, y1]
  have y3 : (((h.push o1).push o2).push o3).objs.size = h.objs.size + 3 := by rw [Heap.size_push, y2]
  have y4 : ((((h.push o1).push o2).push o3).push o4).objs.size = h.objs.size + 4 := by rw [Heap.size_push, y3]
  have y5 : (itsT4 h o1 o2 o3 o4).objs.size = h.objs.size + 5 := by rw [Heap.size_push, y4]
  have y6 : (ownT4 h o1 o2 o3 o4).objs.size = h.objs.size + 6 := by rw [Heap.size_push, y5]
  have rZ : (zipO4 h o1 o2 o3 o4).get? (ownT4 h o1 o2 o3 o4).objs.size = some { cls := .type "zip", data := .fields #[.none, .bool false, .bool false, .ref (pile4 h o1 o2 o3 o4).objs.size, .ref (itsT4 h o1 o2 o3 o4).objs.size] } := Heap.get?_push_size _ rfl
  have up1 : ∀ c o, (ownT4 h o1 o2 o3 o4).get? c = some o → (zipO4 h o1 o2 o3 o4).get? c = some o := fun c o e => Heap.get?_push_of_some _ e
  have up2 : ∀ c o, (itsT4 h o1 o2 o3 o4).get? c = some o → (zipO4 h o1 o2 o3 o4).get? c = some o := fun c o e => up1 c o (Heap.get?_push_of_some _ e)
  have up3 : ∀ c o, (pile4 h o1 o2 o3 o4).get? c = some o → (zipO4 h o1 o2 o3 o4).get? c = some o := fun c o e => up2 c o (Heap.get?_push_of_some _ e)
  have up4 : ∀ c o, (((h.push o1).push o2).push o3).get? c = some o → (zipO4 h o1 o2 o3 o4).get? c = some o := fun c o e => up3 c o (Heap.get?_push_of_some _ e)
  have up5 : ∀ c o, ((h.push o1).push o2).get? c = some o → (zipO4 h o1 o2 o3 o4).get? c = some o := fun c o e => up4 c o (Heap.get?_push_of_some _ e)
  have up6 : ∀ c o, (h.push o1).get? c = some o → (zipO4 h o1 o2 o3 o4).get? c = some o := fun c o e => up5 c o (Heap.get?_push_of_some _ e)
  have rO : (zipO4 h o1 o2 o3 o4).get? (itsT4 h o1 o2 o3 o4).objs.size = some { cls := .type "tuple", data := .seq #[.none, .none, .none, .none] } := up1 _ _ (Heap.get?_push_size _ rfl)
  have rT : (zipO4 h o1 o2 o3 o4).get? (pile4 h o1 o2 o3 o4).objs.size = some { cls := .type "tuple", data := .seq #[.ref h.objs.size, .ref (h.push o1).objs.size, .ref ((h.push o1).push o2).objs.size, .ref (((h.push o1).push o2).push o3).objs.size] } := up2 _ _ (Heap.get?_push_size _ rfl)
  have r1 : (zipO4 h o1 o2 o3 o4).get? h.objs.size = some o1 := up6 _ _ (Heap.get?_push_size _ B1.free)
  have r2 : (zipO4 h o1 o2 o3 o4).get? (h.push o1).objs.size = some o2 := up5 _ _ (Heap.get?_push_size _ B2.free)
  have r3 : (zipO4 h o1 o2 o3 o4).get? ((h.push o1).push o2).objs.size = some o3 := up4 _ _ (Heap.get?_push_size _ B3.free)
  have r4 : (zipO4 h o1 o2 o3 o4).get? (((h.push o1).push o2).push o3).objs.size = some o4 := up3 _ _ (Heap.get?_push_size _ B4.free)
  rw [y6, y5, y4] at rZ; rw [y5] at rO; rw [y4, y3, y2, y1] at rT; rw [y1] at r2; rw [y2] at r3; rw [y3] at r4
  show _ ∧ _; rw [y6]
  exact ⟨⟨_, rZ, rfl⟩, hq _ _ rfl rZ rT rO r1 r2 r3 r4 fun c o e => up6 c o (Heap.get?_push_of_some _ e)⟩
end
end PySem

set_option Elab.async false
set_option linter.all false
set_option maxRecDepth 100000
set_option maxHeartbeats 4000000
namespace CD
open PySem PySem.Spec PyProof.Rows L2 RZ StX ClX
variable {X : Cx} {W : WX}
/-! ### zip of four, in any mix -/
def Itz4 (K : PySem.W.Frag) (k1 k2 k3 k4 : SK) (a b c d : Addr) : It :=
  ⟨fun i H => ∃ (xs ys zs ts : List V) (x y z t : V), SqK K H k1 a xs ∧ SqK K H k2 b ys ∧ SqK K H k3 c zs ∧ SqK K H k4 d ts ∧ xs[i]? = some x ∧ ys[i]? = some y ∧ zs[i]? = some z ∧ ts[i]? = some t,
    fun i H v H' => ∃ T x y z t, v = .ref T ∧ H T = none ∧ H' = upd H T (.tup [x, y, z, t]) ∧ (∀ xs, SqK K H k1 a xs → xs[i]? = some x) ∧ (∀ ys, SqK K H k2 b ys → ys[i]? = some y) ∧ (∀ zs, SqK K H k3 c zs → zs[i]? = some z) ∧ ∀ ts, SqK K H k4 d ts → ts[i]? = some t,
    fun i H => ∃ xs ys zs ts : List V, SqK K H k1 a xs ∧ SqK K H k2 b ys ∧ SqK K H k3 c zs ∧ SqK K H k4 d ts ∧ i = min (min (min xs.length ys.length) zs.length) ts.length⟩
theorem skip4 {p : Addr} {q a b c d : Addr} (h : q ∈ [p + 6, p + 5, p, p + 1, p + 2, p + 3]) : q ∈ [p + 6, p + 4, p + 5, p, p + 1, p + 2, p + 3] := by
  simp only [List.mem_cons, List.not_mem_nil, or_false] at h ⊢
  rcases h with h | h | h | h | h | h <;> simp [h]
theorem turn_z4 {P : Program} {w : World} {K : PySem.W.Frag} {elts : List Expr} {kk : Nat} {tpos : Pos} {k1 k2 k3 k4 : SK} {p a b c d : Nat} (l1 : a < p) (l2 : b < p) (l3 : c < p) (l4 : d < p) :
    Turn P w K (.Tuple elts kk tpos) (Itz4 K k1 k2 k3 k4 a b c d) [p + 6, p + 4, p + 5, p, p + 1, p + 2, p + 3] (p + 6) (fun i h => IsZip h (p + 6) (p + 4) (p + 5) .none ∧ Tup4 h (p + 4) (.ref p) (.ref (p + 1)) (.ref (p + 2)) (.ref (p + 3)) ∧ (∃ x y u t, Tup4 h (p + 5) x y u t) ∧ ItrK h k1 p a i ∧ ItrK h k2 (p + 1) b i ∧ ItrK h k3 (p + 2) c i ∧ ItrK h k4 (p + 3) d i) where
  mem := by simp
  obj := fun i h st q hq => by
    obtain ⟨hz, hTI, ⟨x, y, u, t, hTO⟩, h1, h2, h3, h4⟩ := st
    have e' : q = p + 6 ∨ q = p + 4 ∨ q = p + 5 ∨ q = p ∨ q = p + 1 ∨ q = p + 2 ∨ q = p + 3 := by simpa using hq
    rcases e' with q | q | q | q | q | q | q
    · rw [q]; exact ⟨_, hz, fun v q => nomatch q⟩
    · rw [q]; exact ⟨_, hTI, fun v q => nomatch q⟩
    · rw [q]; exact ⟨_, hTO, fun v q => nomatch q⟩
    · rw [q]; exact h1.there
    · rw [q]; exact h2.there
    · rw [q]; exact h3.there
    · rw [q]; exact h4.there
  keep := fun i h h' st k => by
    obtain ⟨hz, hTI, ⟨x, y, u, t, hTO⟩, h1, h2, h3, h4⟩ := st
    exact ⟨k (p + 6) (by simp) _ hz, k (p + 4) (by simp) _ hTI, ⟨x, y, u, t, k (p + 5) (by simp) _ hTO⟩, h1.keep fun o q => k p (by simp) o q, h2.keep fun o q => k (p + 1) (by simp) o q, h3.keep fun o q => k (p + 2) (by simp) o q, h4.keep fun o q => k (p + 3) (by simp) o q⟩
  item := by
    intro X hP hw hK hc i pins s σ H E I hf st hg
    subst hP hw hK
    obtain ⟨hz, hTI, ⟨x0, y0, u0, t0, hTO⟩, h1, h2, h3, h4⟩ := st
    obtain ⟨xs, ys, zs, ts, x, y, zz, tt, hqx, hqy, hqz, hqt, hx, hy, hzz, htt⟩ := hg
    obtain ⟨its, rv, p1, _⟩ := inv_K I hqx
    obtain ⟨its2, rv2, p2, _⟩ := inv_K I hqy
    obtain ⟨its3, rv3, p3, _⟩ := inv_K I hqz
    obtain ⟨its4, rv4, p4, _⟩ := inv_K I hqt
    obtain ⟨u, hu, ru⟩ := rv.get hx
    obtain ⟨u2, hu2, ru2⟩ := rv2.get hy
    obtain ⟨u3, hu3, ru3⟩ := rv3.get hzz
    obtain ⟨u4, hu4, ru4⟩ := rv4.get htt
    have D1 := draws_K (prog := X.prog) (w := X.w) (A := X.A.in1) (I.ok.hd hc) k1 p a (apN (.inl l1)) its.toArray
    have D2 := draws_K (prog := X.prog) (w := X.w) (A := X.A.in1) (I.ok.hd hc) k2 (p + 1) b (apN (by omega)) its2.toArray
    have D3 := draws_K (prog := X.prog) (w := X.w) (A := X.A.in1) (I.ok.hd hc) k3 (p + 2) c (apN (by omega)) its3.toArray
    have D4 := draws_K (prog := X.prog) (w := X.w) (A := X.A.in1) (I.ok.hd hc) k4 (p + 3) d (apN (by omega)) its4.toArray
    have hlt : i < min (min (min its.toArray.size its2.toArray.size) its3.toArray.size) its4.toArray.size := by
      have l1 := lt_of_get hu
      have l2 := lt_of_get hu2
      have l3 := lt_of_get hu3
      have l4 := lt_of_get hu4
      rw [List.size_toArray, List.size_toArray, List.size_toArray, List.size_toArray]; omega
    refine (goes4 (elts := elts) (x1 := kk) (pos := tpos) D1 D2 D3 D4 l1 l2 l3 l4).goes i s _ E hlt ⟨hz, hTI, ⟨x0, y0, u0, t0, hTO⟩, ⟨h1, p1⟩, ⟨h2, p2⟩, ⟨h3, p3⟩, ⟨h4, p4⟩⟩ fun v h' tk hY hSt hk htk => ?_
    obtain ⟨T, v1, v2, v3, v4, rfl, hT, e1, e2, e3, e4, hTT⟩ := hY
    obtain ⟨z', TI', TO', ⟨h1', _⟩, ⟨h2', _⟩, ⟨h3', _⟩, ⟨h4', _⟩⟩ := hSt
    have e1' : v1 = u := by
      have := e1.symm.trans (by simpa using hu); simpa using this
    have e2' : v2 = u2 := by
      have := e2.symm.trans (by simpa using hu2); simpa using this
    have e3' : v3 = u3 := by
      have := e3.symm.trans (by simpa using hu3); simpa using this
    have e4' : v4 = u4 := by
      have := e4.symm.trans (by simpa using hu4); simpa using this
    subst e1'; subst e2'; subst e3'; subst e4'
    obtain ⟨oT, gT, cT, nT, dT⟩ := hTT
    have new : ObjOk X.prog X.w (upd H T (.tup [x, y, zz, tt])) h' T (.tup [x, y, zz, tt]) :=
      ⟨by show 4 ≤ sizeLine; decide, [v1, v2, v3, v4], .cons ru (.cons ru2 (.cons ru3 (.cons ru4 .nil))), ⟨oT, gT, cT, nT, dT⟩⟩
    have I1 : Inv X pins σ (upd H T (.tup [x, y, zz, tt])) { s with heap := h', toks := tk } :=
      I.turnedNew (ch := [p + 6, p + 4, p + 5, p, p + 1, p + 2, p + 3]) (fun q o hb e => hk q o (fun q' => hb (skip4 (a := a) (b := b) (c := c) (d := d) q')) e) hf hT new
    refine ⟨.ref T, _, I1, rfl, ⟨T, x, y, zz, tt, rfl, I.hok.fresh hT, rfl, fun l hl => by rw [inj_K I hl hqx]; exact hx, fun l hl => by rw [inj_K I hl hqy]; exact hy, fun l hl => by rw [inj_K I hl hqz]; exact hzz, fun l hl => by rw [inj_K I hl hqt]; exact htt⟩, ⟨z', TI', TO', h1', h2', h3', h4'⟩, fun q hcm => ?_⟩
    have hlt : q < s.heap.objs.size := by
      have e' : q = p + 6 ∨ q = p + 4 ∨ q = p + 5 ∨ q = p ∨ q = p + 1 ∨ q = p + 2 ∨ q = p + 3 := by simpa using hcm
      rcases e' with q | q | q | q | q | q | q
      · rw [q]; exact Heap.lt_size hz
      · rw [q]; exact Heap.lt_size hTI
      · rw [q]; exact Heap.lt_size hTO
      · rw [q]; obtain ⟨_, e1, _⟩ := h1.there; exact Heap.lt_size e1
      · rw [q]; obtain ⟨_, e1, _⟩ := h2.there; exact Heap.lt_size e1
      · rw [q]; obtain ⟨_, e1, _⟩ := h3.there; exact Heap.lt_size e1
      · rw [q]; obtain ⟨_, e1, _⟩ := h4.there; exact Heap.lt_size e1
    rw [upd_ne (Nat.ne_of_lt (Nat.lt_of_lt_of_le hlt hT))]
    exact (hf q hcm).1
  done := by
    intro X hP hw hK hc i pins s σ H E I hf st hg
    subst hP hw hK
    obtain ⟨hz, hTI, ⟨x0, y0, u0, t0, hTO⟩, h1, h2, h3, h4⟩ := st
    obtain ⟨xs, ys, zs, ts, hqx, hqy, hqz, hqt, rfl⟩ := hg
    obtain ⟨its, rv, p1, _⟩ := inv_K I hqx
    obtain ⟨its2, rv2, p2, _⟩ := inv_K I hqy
    obtain ⟨its3, rv3, p3, _⟩ := inv_K I hqz
    obtain ⟨its4, rv4, p4, _⟩ := inv_K I hqt
    have D1 := draws_K (prog := X.prog) (w := X.w) (A := X.A.in1) (I.ok.hd hc) k1 p a (apN (.inl l1)) its.toArray
    have D2 := draws_K (prog := X.prog) (w := X.w) (A := X.A.in1) (I.ok.hd hc) k2 (p + 1) b (apN (by omega)) its2.toArray
    have D3 := draws_K (prog := X.prog) (w := X.w) (A := X.A.in1) (I.ok.hd hc) k3 (p + 2) c (apN (by omega)) its3.toArray
    have D4 := draws_K (prog := X.prog) (w := X.w) (A := X.A.in1) (I.ok.hd hc) k4 (p + 3) d (apN (by omega)) its4.toArray
    have e : min (min (min xs.length ys.length) zs.length) ts.length = min (min (min its.toArray.size its2.toArray.size) its3.toArray.size) its4.toArray.size := by
      rw [List.size_toArray, List.size_toArray, List.size_toArray, List.size_toArray, rv.length, rv2.length, rv3.length, rv4.length]
    rw [e] at h1 h2 h3 h4
    exact (goes4 (elts := elts) (x1 := kk) (pos := tpos) D1 D2 D3 D4 l1 l2 l3 l4).stops s _ E ⟨hz, hTI, ⟨x0, y0, u0, t0, hTO⟩, ⟨h1, p1⟩, ⟨h2, p2⟩, ⟨h3, p3⟩, ⟨h4, p4⟩⟩ fun h' tk hk htk =>
      I.turnedL (ch := [p + 6, p + 4, p + 5, p, p + 1, p + 2, p + 3]) (fun q o hb e => hk q o (fun q' => hb (skip4 (a := a) (b := b) (c := c) (d := d) q')) e) hf
  self := fun A i s Q E st h => wpAny_pyIter_zip st.1 h
def iZip4 (K : PySem.W.Frag) (ta : TA) : TI := fun σ H R => ta σ H fun vs H1 => ∃ k1 k2 k3 k4 a b c d xs ys zs ts, vs = [.ref a, .ref b, .ref c, .ref d] ∧ SqK K H1 k1 a xs ∧ SqK K H1 k2 b ys ∧ SqK K H1 k3 c zs ∧ SqK K H1 k4 d ts ∧ R (Itz4 K k1 k2 k3 k4 a b c d) H1
theorem vals4' {x y z t : V} {us : List Value} (r : Vals [x, y, z, t] us) : ∃ u v w o, us = [u, v, w, o] ∧ RelV x u ∧ RelV y v ∧ RelV z w ∧ RelV t o := by
  cases r with
  | cons a r => cases r with
    | cons b r => cases r with
      | cons c r => cases r with
        | cons d r => cases r; exact ⟨_, _, _, _, rfl, a, b, c, d⟩
theorem pi_zip4 {e e2 e3 e4 : Expr} {ta : TA} {p pos tpos : Pos} {elts : List Expr} {kk : Nat} (hg : Gl X "zip") (hm : X.mg "zip" = none) (ha : PA X [e, e2, e3, e4] ta)
    (hs : starEach [e, e2, e3, e4] X.env = (false, eval e X.env) :: starEach [e2, e3, e4] X.env := by rfl) (hpl : (backTo pos (starEach [e2, e3, e4] X.env)).any (·.1) = false := by rfl) :
    PI X (.Tuple elts kk tpos) (.Call (.Name "zip" p) [e, e2, e3, e4] [] pos) (iZip4 X.K ta) := by
  refine ⟨fun pins s σ H R I h => ?_⟩
  refine Call_ (ld_blt I hg hm PyProof.Rows.boot_zip (PyProof.Rows.callWith_type1 (thn (ha.run pos pins s σ H _ I h) fun us s1 ⟨vs, H1, I1, r1, q1⟩ => ?_) hs hpl))
  obtain ⟨k1, k2, k3, k4, a, b, c, d, xs, ys, zs, ts, ex, hqx, hqy, hqz, hqt, q⟩ := q1
  subst ex
  obtain ⟨u1, u2, u3, u4, rfl, r1', r2', r3', r4'⟩ := vals4' r1
  cases (show u1 = Value.ref a from r1')
  cases (show u2 = Value.ref b from r2')
  cases (show u3 = Value.ref c from r3')
  cases (show u4 = Value.ref d from r4')
  obtain ⟨its, rv, p1, la⟩ := inv_K I1 hqx
  obtain ⟨its2, rv2, p2, lb⟩ := inv_K I1 hqy
  obtain ⟨its3, rv3, p3, lc⟩ := inv_K I1 hqz
  obtain ⟨its4, rv4, p4, ld⟩ := inv_K I1 hqt
  refine begin4 (begins_K k1 a its.toArray) (begins_K k2 b its2.toArray) (begins_K k3 c its3.toArray) (begins_K k4 d its4.toArray) p1 p2 p3 p4 fun n h' hn hz hTI hTO g1 g2 g3 g4 hk => wpAny_pyIter_zip hz ?_
  have I2 : Inv X pins σ H1 { s1 with heap := h' } := I1.kept (t' := s1.toks) hk
  have fresh : ∀ c, c ∈ [n + 6, n + 4, n + 5, n, n + 1, n + 2, n + 3] → FpOk X pins H1 c := fun c hcm => by
    have hle : s1.heap.objs.size ≤ c := by
      have e' : c = n + 6 ∨ c = n + 4 ∨ c = n + 5 ∨ c = n ∨ c = n + 1 ∨ c = n + 2 ∨ c = n + 3 := by simpa using hcm
      rw [← hn]
      rcases e' with z | z | z | z | z | z | z <;> rw [z] <;> first | exact Nat.le_refl _ | exact Nat.le_add_right _ _
    exact I1.fpOk hle (I1.hok.fresh hle)
  refine ⟨n + 6, [n + 6, n + 4, n + 5, n, n + 1, n + 2, n + 3], _, _, H1, rfl, I2, turn_z4 (k1 := k1) (k2 := k2) (k3 := k3) (k4 := k4) (by rw [hn]; exact la) (by rw [hn]; exact lb) (by rw [hn]; exact lc) (by rw [hn]; exact ld), ⟨hz, hTI, ⟨_, _, _, _, hTO⟩, itrK_new g1, itrK_new g2, itrK_new g3, itrK_new g4⟩, fresh, q⟩
def quads (xs ys zs ts : List PV) : List PV := List.zipWith (fun (x : PV × PV) (y : PV × PV) => .tup [x.1, x.2, y.1, y.2]) (List.zip xs ys) (List.zip zs ts)
def zipD4 (ds : PEnv → M (List PV)) : PEnv → M (List PV) := fun env st => (ds env st).bind fun ps st => match ps with
  | [p, q, o, n] => match still p, still q, still o, still n with
    | some xs, some ys, some zs, some ts => .ok (quads xs ys zs ts) st
    | _, _, _, _ => .stuck
  | _ => .stuck
theorem rep4 {G : GC} {r : Loc} {H : Hp} {p q o n : PV} {xs : List V} (h : RepL G r H [p, q, o, n] xs) : ∃ v w u t, xs = [v, w, u, t] ∧ Rep G r H p v ∧ Rep G r H q w ∧ Rep G r H o u ∧ Rep G r H n t := by
  simp only [RepL] at h
  obtain ⟨v, ws, rfl, a, w, ws', rfl, b, u, ws'', rfl, c, t, ws3, rfl, d, rfl⟩ := h
  exact ⟨v, w, u, t, rfl, a, b, c, d⟩
theorem walks_z4 {G : GC} {r : Loc} {H : Hp} {k1 k2 k3 k4 : SK} {a b c d : Addr} {us ws ts os : List V} {xs ys zs ms : List PV} (f1 : ∀ r' H', Evo r H r' H' → SqK G.K H' k1 a us) (f2 : ∀ r' H', Evo r H r' H' → SqK G.K H' k2 b ws) (f3 : ∀ r' H', Evo r H r' H' → SqK G.K H' k3 c ts) (f4 : ∀ r' H', Evo r H r' H' → SqK G.K H' k4 d os)
    (l1 : RepL G r H xs us) (l2 : RepL G r H ys ws) (l3 : RepL G r H zs ts) (l4 : RepL G r H ms os) : Walks G (Itz4 G.K k1 k2 k3 k4 a b c d) r H (quads xs ys zs ms) := by
  refine ⟨fun H => SqK G.K H k1 a us ∧ SqK G.K H k2 b ws ∧ SqK G.K H k3 c ts ∧ SqK G.K H k4 d os, fun i H v H' => ∃ T x y z t, v = .ref T ∧ H T = none ∧ H' = upd H T (.tup [x, y, z, t]) ∧ us[i]? = some x ∧ ws[i]? = some y ∧ ts[i]? = some z ∧ os[i]? = some t, ?_, fun r' H' e => ⟨f1 _ _ e, f2 _ _ e, f3 _ _ e, f4 _ _ e⟩, fun i r1 H1 st v H2 p e R y hp => ?_⟩
  · have e : (quads xs ys zs ms).length = min (min (min us.length ws.length) ts.length) os.length := by
      simp [quads, l1.len, l2.len, l3.len, l4.len]; try omega
    rw [e]
    refine ⟨fun i H hi q => ?_, fun H q => ⟨us, ws, ts, os, q.1, q.2.1, q.2.2.1, q.2.2.2, rfl⟩, fun i H v H' hi q y => ?_⟩
    · have h1 : i < us.length := by omega
      have h2 : i < ws.length := by omega
      have h3 : i < ts.length := by omega
      have h4 : i < os.length := by omega
      exact ⟨us, ws, ts, os, us[i], ws[i], ts[i], os[i], q.1, q.2.1, q.2.2.1, q.2.2.2, by simp [h1], by simp [h2], by simp [h3], by simp [h4]⟩
    · obtain ⟨T, x, y, z, t, h1, h2, h3, h4, h5, h6, h7⟩ := y
      exact ⟨T, x, y, z, t, h1, h2, h3, h4 us q.1, h5 ws q.2.1, h6 ts q.2.2.1, h7 os q.2.2.2⟩
  · obtain ⟨T, x, y, z, t, rfl, nT, rfl, h1, h2, h3, h4⟩ := y
    unfold quads at hp
    simp only [List.zip, List.getElem?_zipWith] at hp
    cases q1 : xs[i]? with
    | none => rw [q1] at hp; cases hp
    | some a =>
      cases q2 : ys[i]? with
      | none => rw [q1, q2] at hp; cases hp
      | some b =>
        cases q3 : zs[i]? with
        | none => rw [q1, q2, q3] at hp; cases hp
        | some c =>
          cases q4 : ms[i]? with
          | none => rw [q1, q2, q3, q4] at hp; cases hp
          | some d =>
            rw [q1, q2, q3, q4] at hp; cases hp
            obtain ⟨z1, e1, k1⟩ := l1.get q1
            obtain ⟨z2, e2, k2⟩ := l2.get q2
            obtain ⟨z3, e3, k3⟩ := l3.get q3
            obtain ⟨z4, e4, k4⟩ := l4.get q4
            rw [h1] at e1; cases e1
            rw [h2] at e2; cases e2
            rw [h3] at e3; cases e3
            rw [h4] at e4; cases e4
            exact ⟨fun c o h => by rw [upd_ne (ne_of_none h nT)]; exact h, Rep.newTup R nT (RepL.cons (Rep.evo e _ _ k1) (RepL.cons (Rep.evo e _ _ k2) (RepL.cons (Rep.evo e _ _ k3) (RepL.cons (Rep.evo e _ _ k4) RepL.nil))))⟩
theorem si_zip4 {e e2 e3 e4 : Expr} {ta : TA} {ds : PEnv → M (List PV)} {p pos tpos : Pos} {elts : List Expr} {kk : Nat} (hg : Gl X "zip") (hm : X.mg "zip" = none) (ha : SA X W [e, e2, e3, e4] ta ds)
    (hs : starEach [e, e2, e3, e4] X.env = (false, eval e X.env) :: starEach [e2, e3, e4] X.env := by rfl) (hpl : (backTo pos (starEach [e2, e3, e4] X.env)).any (·.1) = false := by rfl) : SI X W (.Tuple elts kk tpos) (.Call (.Name "zip" p) [e, e2, e3, e4] [] pos) (iZip4 X.K ta) (zipD4 ds) := by
  refine ⟨pi_zip4 hg hm ha.pa hs hpl, fun r s H env st R E Rl q => ?_⟩
  refine ha.so r s H env st _ E Rl (q.bind.imp fun ps st1 r1 H1 t1 R1 h1 vs hv => ?_)
  split at h1
  · rename_i p q o n
    split at h1
    · rename_i xs ys zs ms hx hy hz hm
      obtain ⟨v, w, u, t, rfl, k, l, m, n⟩ := rep4 hv
      obtain ⟨a, us, k1, rfl, f1, l1⟩ := still_ok k hx
      obtain ⟨b, ws, k2, rfl, f2, l2⟩ := still_ok l hy
      obtain ⟨c, ts, k3, rfl, f3, l3⟩ := still_ok m hz
      obtain ⟨d, os, k4, rfl, f4, l4⟩ := still_ok n hm
      exact ⟨k1, k2, k3, k4, a, b, c, d, us, ws, ts, os, rfl, f1 _ _ Evo.refl, f2 _ _ Evo.refl, f3 _ _ Evo.refl, f4 _ _ Evo.refl, h1 r1 H1 Step.refl R1 _ (walks_z4 f1 f2 f3 f4 l1 l2 l3 l4)⟩
    · exact h1.elim
  · exact h1.elim
theorem evZip4 {a b c d : DE} {env : PEnv} {st : Store} {p q o n : PV} {xs ys zs ts : List PV} (ha : a env st = .ok p st) (hb : b env st = .ok q st) (hc : c env st = .ok o st) (hd : d env st = .ok n st) (h1 : still p = some xs) (h2 : still q = some ys) (h3 : still o = some zs) (h4 : still n = some ts) : zipD4 (dCons a (dCons b (dCons c (dCons d dNil)))) env st = .ok (quads xs ys zs ts) st := by
  unfold zipD4; rw [args1 ha (args1 hb (args1 hc (args1 hd args0))), Res.bind_ok]; simp only [h1, h2, h3, h4]
end CD

set_option Elab.async false
set_option linter.all false
set_option maxRecDepth 100000
set_option maxHeartbeats 2000000
namespace CD
open PySem PySem.Spec PyProof.Rows L2 RZ StX ClX
variable {X : Cx} {W : WX}
/-! ### len(set(xs)), xs a list or a tuple of ints -/
theorem same_len : ∀ (a b : List Int), a.Nodup → b.Nodup → (∀ k, k ∈ a ↔ k ∈ b) → a.length = b.length
  | [], [], _, _, _ => rfl
  | [], y :: b, _, _, h => absurd ((h y).mpr List.mem_cons_self) (by simp)
  | x :: a, b, ha, hb, h => by
    have hx := (h x).mp List.mem_cons_self
    obtain ⟨h1, h2⟩ := List.nodup_cons.mp ha
    have ih := same_len a (b.erase x) h2 (hb.erase x) fun k => by
      rw [hb.mem_erase_iff]
      constructor
      · intro hk
        exact ⟨fun e => h1 (e ▸ hk), (h k).mp (List.mem_cons_of_mem _ hk)⟩
      · rintro ⟨n, hk⟩
        rcases List.mem_cons.mp ((h k).mpr hk) with e | hk
        · exact absurd e n
        · exact hk
    have := List.length_erase_of_mem hx
    have := List.length_pos_of_mem hx
    simp only [List.length_cons]; omega
theorem asc_nodup {l : List Int} (h : l.Pairwise (· < ·)) : l.Nodup := h.imp fun h => by omega
theorem setR_len {w : World} {h : Heap} {a : Addr} {ks : List Int} {c : Nat} (R : SetR w h a (fun j => decide (j ∈ ks)) c) : c = (sortU ks).length := by
  obtain ⟨o, es, ep, t, _, _, _, _, nd, hm, _, _, hz, _⟩ := R
  have e : (es.toList.map L2.keyOf).length = (sortU ks).length := same_len _ _ nd (asc_nodup (sortU_asc ks)) fun k => by
    rw [← hm k, sortU_mem]; exact decide_eq_true_iff
  rw [← e, ← hz, List.length_map, Array.length_toList]
def tLenSetQ (K : PySem.W.Frag) (ta : TE) : TE := fun σ H Q => ta σ H fun x H1 => ∃ (k : SK) (l : Addr) (ns : List Int), x = .ref l ∧ SqK K H1 k l (ns.map V.int) ∧ ns.length ≤ 4000 ∧ Q (.int ((sortU ns).length : Nat)) H1
theorem pe_lenSetQ {a : Expr} {ta : TE} {p p2 q pos : Pos} (hc : X.calm = true) (hg : Gl X "len") (hm : X.mg "len" = none) (hg2 : Gl X "set") (hm2 : X.mg "set" = none) (ha : PE X a ta)
    (na : starEach [a] X.env = (false, eval a X.env) :: starEach [] X.env := by rfl) : PE X (.Call (.Name "len" p) [.Call (.Name "set" p2) [a] [] q] [] pos) (tLenSetQ X.K ta) := by
  refine ⟨fun pins s σ H Q I h => Call_ (ld_blt I hg hm PySem.boot_len (PyProof.Rows.callWith_builtin1 (PyProof.Rows.args_cons (Call_ (ld_blt I hg2 hm2 PyProof.Rows.boot_set ?_)) rfl) rfl rfl))⟩
  refine PyProof.Rows.callWith_type1 (PyProof.Rows.args_cons (thn (ha.run pins s σ H _ I h) fun v s1 ⟨x, H1, I1, r1, q1⟩ => PyProof.Rows.args_nil ?_) na) na rfl
  obtain ⟨k, l, ns, rfl, hq, hl, q1⟩ := q1
  cases r1
  cases k with
  | l =>
    obtain ⟨its, r, pl, hz⟩ := I1.list hq
    refine setOfList ns (I1.ok.hd hc) pl.isList (by simpa using r.ints) (by unfold scanBound; omega) fun h' tk c hS hle hk => PyProof.Rows.args_nil ?_
    have hn := setR_len hS
    obtain ⟨o, es, ep, t, ho, hex, hd, _, _, _, hf0, hf, hz, _⟩ := hS
    exact call_len_set ho hex hd hf (by rw [hz] <;> omega) ⟨.int ((sortU ns).length : Nat), H1, (I1.kept fun b o e => hk b o e).tok _, ⟨_, by rw [hz, hn]⟩, q1⟩
  | t =>
    obtain ⟨its, r, pl, hz⟩ := I1.tuple hq
    refine call_set_tupI ns (I1.ok.hd hc) pl (by simpa using r.ints) (by unfold scanBound; omega) fun h' tk c hS hle hk => PyProof.Rows.args_nil ?_
    have hn := setR_len hS
    obtain ⟨o, es, ep, t, ho, hex, hd, _, _, _, hf0, hf, hz, _⟩ := hS
    exact call_len_set ho hex hd hf (by rw [hz] <;> omega) ⟨.int ((sortU ns).length : Nat), H1, (I1.kept fun b o e => hk b o e).tok _, ⟨_, by rw [hz, hn]⟩, q1⟩
def lenSetD (d : DE) : DE := fun env st => (d env st).bind fun p st => match still p with
  | some xs => match intsOf xs with
    | some ns => if ns.length ≤ 4000 then .ok (.int ((sortU ns).length : Nat)) st else .stuck
    | none => .stuck
  | none => .stuck
theorem se_lenSet {a : Expr} {ta : TE} {d : DE} {p p2 q pos : Pos} (hc : X.calm = true) (hg : Gl X "len") (hm : X.mg "len" = none) (hg2 : Gl X "set") (hm2 : X.mg "set" = none) (ha : SE X W a ta d)
    (na : starEach [a] X.env = (false, eval a X.env) :: starEach [] X.env := by rfl) : SE X W (.Call (.Name "len" p) [.Call (.Name "set" p2) [a] [] q] [] pos) (tLenSetQ X.K ta) (lenSetD d) := by
  refine ⟨pe_lenSetQ hc hg hm hg2 hm2 ha.pe na, fun r s H env st Q E R h => ha.so r s H env st _ E R (h.bind.imp fun p st1 r1 H1 t1 R1 h1 x hx => ?_)⟩
  split at h1
  · rename_i xs hs
    split at h1
    · rename_i ns hn
      split at h1
      · rename_i hl
        obtain ⟨l, vs, k, rfl, f, rl⟩ := still_ok hx hs
        have := intsOf_ok rl hn
        subst this
        exact ⟨k, l, ns, rfl, f _ _ Evo.refl, hl, h1 r1 H1 Step.refl R1 _ (rep_int)⟩
      · exact h1.elim
    · exact h1.elim
  · exact h1.elim
theorem ev_lenSet {d : DE} {env : PEnv} {st : Store} {p : PV} {l : List Int} (h : d env st = .ok p st) (hs : still p = some (l.map .int)) (hl : l.length ≤ 4000) : lenSetD d env st = .ok (.int ((sortU l).length : Nat)) st := by
  unfold lenSetD
  rw [h, Res.bind_ok]
  simp only [hs, intsOf_map, if_pos hl]
end CD

set_option Elab.async false
set_option linter.all false
set_option maxRecDepth 100000
set_option maxHeartbeats 2000000
namespace CD
open PySem PySem.Spec PyProof.Rows L2 RZ StX ClX
/-! ### str(i), sep.join(texts) -/
def strF : List PV → M PV
  | [.int i] => fun st => if i.natAbs < 1000000000000000000 then .ok (.str (toString i)) st else .stuck
  | _ => nope
theorem log_small {n : Nat} (h : n < 1000000000000000000) : n.log2 < 1920 := by
  rcases Nat.eq_zero_or_pos n with z | z
  · subst z; decide
  · exact (Nat.log2_lt (by omega)).mpr (Nat.lt_of_lt_of_le h (Nat.le_trans (by decide : 1000000000000000000 ≤ 2 ^ 60) (Nat.pow_le_pow_right (by decide) (by decide))))
theorem scall_str {G : GC} : SCall G (fun xs H Q => ∃ i, xs = [.int i] ∧ i.natAbs.log2 < 1920 ∧ Q (.str (toString i)) H) strF := by
  intro r H st ps xs E Q R hx h
  unfold strF at h
  split at h
  · split at h
    · rename_i hz
      obtain ⟨v, rfl, k⟩ := rep1 hx
      simp only [Rep] at k
      subst k
      exact ⟨_, rfl, log_small hz, h r H Step.refl R _ (by simp only [Rep])⟩
    · exact h.elim
  · exact h.elim
def strsOf : List PV → Option (List Str)
  | [] => some []
  | .str x :: ps => (strsOf ps).map (x :: ·)
  | _ => none
theorem strsOf_ok {G : GC} {r : Loc} {H : Hp} : ∀ {ps : List PV} {vs : List V} {ys : List Str}, RepL G r H ps vs → strsOf ps = some ys → vs = ys.map V.str
  | [], vs, ys, l, h => by
    cases h
    simp only [RepL] at l; exact l
  | p :: ps, vs, ys, l, h => by
    simp only [RepL] at l
    obtain ⟨v, ws, rfl, a, rest⟩ := l
    cases p with
    | str x =>
      simp only [strsOf] at h
      obtain ⟨zs, hz, rfl⟩ := map_some h
      simp only [Rep] at a
      rw [a, strsOf_ok rest hz]; rfl
    | _ => cases h
theorem strsOf_map : ∀ l : List Str, strsOf (l.map .str) = some l
  | [] => rfl
  | x :: l => by simp [strsOf, strsOf_map l]
def joinF : PV → List PV → M PV := fun p qs st => match p, qs with
  | .str a, [q] => match sqlOf st q with
    | some xs => match strsOf xs with
      | some ys => if (ys.map (·.length)).sum + ys.length * a.length ≤ 16777216 then .ok (.str (Txt.join a ys)) st else .stuck
      | none => .stuck
    | none => .stuck
  | _, _ => .stuck
theorem smeth_join {G : GC} : SMeth G (fun x xs H Q => ∃ a p, ∃ ys : List Str, x = .str a ∧ xs = [.ref p] ∧ (SqL G.K H p (ys.map V.str) ∨ SqT G.K H p (ys.map V.str)) ∧ (ys.map (·.length)).sum + ys.length * a.length ≤ 16777216 ∧ Q (.str (Txt.join a ys)) H) joinF := by
  intro r H st p x ps xs E Q R hx hxs h
  unfold joinF at h
  split at h
  · rename_i a q
    split at h
    · rename_i ws hw
      split at h
      · rename_i ys hy
        split at h
        · rename_i hz
          obtain ⟨v, rfl, k⟩ := rep1 hxs
          obtain ⟨l, vs, rfl, f, rl⟩ := sqlOf_ok R k hw
          have := strsOf_ok rl hy
          subst this
          simp only [Rep] at hx
          exact ⟨a, l, ys, hx, rfl, .inl f, hz, h r H Step.refl R _ (by simp only [Rep])⟩
        · exact h.elim
      · exact h.elim
    · exact h.elim
  · exact h.elim
theorem ev_join {a : Str} {l : List Str} {q : PV} {st : Store} (h : sqlOf st q = some (l.map .str)) (hz : (l.map (·.length)).sum + l.length * a.length ≤ 16777216) : joinF (.str a) [q] st = .ok (.str (Txt.join a l)) st := by
  unfold joinF
  simp only [h, strsOf_map, if_pos hz]
/-! ### p is True, p is False -/
def isBD (neg : Bool) : PV → PV → M PV := fun p q st => match p, q with
  | .bl a, .bl b => .ok (.bl (decide (a = b) != neg)) st
  | _, _ => .stuck
theorem sop_isB {G : GC} : SOp G rIsB (isBD false) := by
  intro r H st p q x y E Q R hx hy h
  unfold isBD at h
  split at h
  · simp only [Rep] at hx hy
    exact ⟨_, _, hx, hy, by simpa using h r H Step.refl R _ rep_bl⟩
  · exact h.elim
theorem sop_notB {G : GC} : SOp G rNotB (isBD true) := by
  intro r H st p q x y E Q R hx hy h
  unfold isBD at h
  split at h
  · simp only [Rep] at hx hy
    exact ⟨_, _, hx, hy, by simpa using h r H Step.refl R _ rep_bl⟩
  · exact h.elim
theorem ev_isB {neg a b : Bool} {st : Store} : isBD neg (.bl a) (.bl b) st = .ok (.bl (decide (a = b) != neg)) st := rfl
end CD

set_option Elab.async false
set_option linter.all false
set_option maxRecDepth 100000
set_option maxHeartbeats 2000000
namespace CD
open PySem PySem.Spec PyProof.Rows L2 RZ StX ClX
/-! ### x in xs, data in a list of data -/
def inDD (neg : Bool) : PV → PV → M PV := fun p q st => match dataOf st p, dataOf st q with
  | some d, some (.list ds) => if SeqAt.shaped d = true ∧ SeqAt.shaped (.list ds) = true then .ok (.bl (if neg then !ds.any (fun z => PyData.eqv z d) else ds.any fun z => PyData.eqv z d)) st else .stuck
  | _, _ => .stuck
theorem sop_inDD {G : GC} : SOp G (rInD G.K) (inDD false) := by
  intro r H st p q x y E Q R hx hy h
  unfold inDD at h
  split at h
  · rename_i d ds hd he
    split at h
    · rename_i hs
      exact ⟨d, ds, dataOf_ok R hx hd, dataOf_ok R hy he, hs.1, hs.2, h r H Step.refl R _ rep_bl⟩
    · exact h.elim
  · exact h.elim
theorem sop_notInDD {G : GC} : SOp G (rNotInD G.K) (inDD true) := by
  intro r H st p q x y E Q R hx hy h
  unfold inDD at h
  split at h
  · rename_i d ds hd he
    split at h
    · rename_i hs
      exact ⟨d, ds, dataOf_ok R hx hd, dataOf_ok R hy he, hs.1, hs.2, h r H Step.refl R _ rep_bl⟩
    · exact h.elim
  · exact h.elim
theorem op_inDR {X : Cx} {k : Nat} (hr : Room k X.A) : OpR X (compareOp .In) (rInD X.K) := op_inD (by have := hr.un; omega)
theorem op_notInDR {X : Cx} {k : Nat} (hr : Room k X.A) : OpR X (compareOp .NotIn) (rNotInD X.K) := op_notInD (by have := hr.un; omega)
theorem ev_inDD {neg : Bool} {p q : PV} {st : Store} {d : PyData} {ds : List PyData} (h : dataOf st p = some d) (h2 : dataOf st q = some (.list ds)) (s1 : SeqAt.shaped d = true) (s2 : SeqAt.shaped (.list ds) = true) : inDD neg p q st = .ok (.bl (if neg then !ds.any (fun z => PyData.eqv z d) else ds.any fun z => PyData.eqv z d)) st := by
  unfold inDD
  simp only [h, h2]
  rw [if_pos ⟨s1, s2⟩]
end CD

set_option Elab.async false
set_option linter.all false
set_option maxRecDepth 100000
set_option maxHeartbeats 2000000
namespace CD
open PySem PySem.Spec PyProof.Rows L2 RZ StX ClX
variable {X : Cx} {W : WX}
/-! ### try -/
/-- what statements are worth, told by their denotation alone -/
def tSem (X : Cx) (W : WX) (d : DS) : TS := fun D σ H => ∃ r env st, EnvR (gc X) r H σ env ∧ SRel (gc X) r H st ∧ PostS X W r H (d env st) D
theorem ss_sem {b : List Stmt} {t : TS} {d : DS} (h : SSs X W b t d) : PSs X b (tSem X W d) :=
  ⟨fun pins s σ H D I ⟨r, env, st, E, R, p⟩ => h.pss.run pins s σ H D I (h.so r σ H env st D E R p)⟩
/-- which of the program's exceptions a clause takes -/
def ExmF (G : GC) (c : Value) (tab : Str → Option Bool) : Prop := ∀ x b, tab x = some b → ∀ C, G.mg x = some (.ref C) → PySem.W.exmOne G.K (.ref C) c = some b
/-- a suite: its reading by address, class and dict of what is caught; its denotation by what is caught -/
structure SU (X : Cx) (suite : List Stmt) (i : Option Nat) (ts : Addr → Value → Option Addr → TS) (ds : PX → DS) : Prop where
  pss : ∀ (a : Addr) (oe : Obj) (cls : Value) (d : Option Addr) (pn : List (Addr × Obj)), L2N.Zn cls d oe → (∃ vs, oe.data = .fields vs) → PSs (X.suite a ((a, oe) :: pn)) suite (ts a cls d)
  so : ∀ (a : Addr) (cls : Value) (dd : Option Addr) (e : PX) r s H env st D, H a = none → ExcR (gc X) r H e cls dd → (∀ j, i = some j → s[j]? = some (some (V.ref a))) → EnvR (gc X) r H s env → SRel (gc X) r H st → PostS X WF r H (ds e env st) D → ts a cls dd D s H
theorem su_plain {suite : List Stmt} {i : Option Nat} {d : DS} (h : ∀ (a : Addr) (oe : Obj) (pn : List (Addr × Obj)), ∃ t, SSs (X.suite a ((a, oe) :: pn)) WF suite t d) : SU X suite i (fun _ _ _ => tSem X WF d) (fun _ => d) :=
  ⟨fun a oe cls dd pn _ _ => let ⟨_, q⟩ := h a oe pn; ss_sem q, fun a cls dd e r s H env st D _ _ _ E R p => ⟨r, env, st, E, R, p⟩⟩
def tryD (tab : Str → Option Bool) (db : DS) (ds : PX → DS) : DS := fun env st => match db env st with
  | .exc e env' st' => match tab e.c with
    | some true => noX (ds e env' st')
    | some false => .exc e env' st'
    | none => .stuck
  | r => r
theorem post_noX {X : Cx} {W : WX} {r : CD.Loc} {H : Hp} {D : Ends} {res : Res Flow} (h : PostS X W r H (noX res) D) : PostS X WF r H res D := by
  cases res with
  | stuck => exact h
  | ok f st => cases f <;> exact h
  | exc e env st => exact h.elim
theorem ss_try0 {x : Str} {c : Value} {tab : Str → Option Bool} {body suite : List Stmt} {b₀ : Stmt} {ts : Addr → Value → Option Addr → TS} {db : DS} {ds : PX → DS} {np pos' pos : Pos} (hs : X.stack = X.env :: X.outer) (hf : X.env.frame = some X.env.locals) (hc : Names X x c) (tk : L2N.Takes X W) (hx : ExmF (gc X) c tab)
    (hb : ∀ (W : WX) (pn : List (Addr × Obj)) (xe : Value → Shared → Prop), L2N.Takes (X.tr pn xe) W → PassesOwn (model X.prog X.w) X.A X.env xe → ∃ t, SSs (X.tr pn xe) W body t db) (hsu : SU X (b₀ :: suite) none ts ds) :
    SS X W (.Try body [.ExceptHandler (some (.Name x np)) none (b₀ :: suite) pos'] [] [] pos) (fun D σ H => tSem X (wMany X.K W D [(c, ts)]) db D σ H) (tryD tab db ds) := by
  refine ⟨L2N.ps_try_many (tb := fun W' => tSem X W' db) hs hf tk (fun W' pn xe t' p' => ?_) (.cons hc (fun a oe cls d pn => hsu.pss a oe cls d pn) .nil), fun r s H env st D E R h => ⟨r, env, st, E, R, ?_⟩⟩
  · obtain ⟨t, q⟩ := hb W' pn xe t' p'
    exact ss_sem q
  · unfold tryD at h
    cases z : db env st with
    | stuck => rw [z] at h; exact h
    | ok f st' =>
      rw [z] at h
      cases f <;> exact h
    | exc e env' st' =>
      rw [z] at h
      intro r' H' s' cls dd t1 R1 E1 k
      obtain ⟨C, m1, rfl, k2⟩ := id k
      simp only at h
      cases q : tab e.c with
      | none => rw [q] at h; exact h.elim
      | some b =>
        rw [q] at h
        refine ⟨b, hx _ _ q C m1, fun hb a na => ?_, fun hb => ?_⟩
        · subst hb
          exact hsu.so a _ dd e r' s' H' env' st' D na k (fun j hj => by cases hj) E1 R1 (PostS.mono t1 (post_noX (W := W) h))
        · subst hb
          exact h r' H' s' _ dd t1 R1 E1 k
/-- the name that held what was caught is gone -/
def goneI (i : Nat) : Res Flow → Res Flow
  | .ok (.nx e) st => .ok (.nx (e.set i none)) st
  | .ok (.bk e) st => .ok (.bk (e.set i none)) st
  | .ok (.ct e) st => .ok (.ct (e.set i none)) st
  | r => r
def tryAsD (i : Nat) (tab : Str → Option Bool) (db : DS) (ds : PX → DS) : DS := fun env st => match db env st with
  | .exc e env' st' => match tab e.c with
    | some true => if i < env'.length then goneI i (noX (ds e (env'.set i none) st')) else .stuck
    | some false => .exc e env' st'
    | none => .stuck
  | r => r
theorem EnvR.gone {G : GC} {r : CD.Loc} {H : Hp} {s : St} {env : PEnv} (E : EnvR G r H s env) (i : Nat) (x : Option V) : EnvR G r H (s.set i x) (env.set i none) := by
  refine ⟨by simp [E.1], fun j p h => ?_⟩
  rw [List.getElem?_set] at h
  split at h
  · split at h <;> cases h
  · rename_i hj
    obtain ⟨v, h1, h2⟩ := E.2 j p h
    exact ⟨v, by rw [List.getElem?_set_ne hj]; exact h1, h2⟩
theorem ss_tryAs {x n : Str} {i : Nat} {c : Value} {tab : Str → Option Bool} {body suite : List Stmt} {b₀ : Stmt} {ts : Addr → Value → Option Addr → TS} {db : DS} {ds : PX → DS} {np pos' pos : Pos} (hs : X.stack = X.env :: X.outer) (hf : X.env.frame = some X.env.locals) (hN : X.N.Nodup) (hi : X.N[i]? = some n) (hln : X.env.kindOf n = some .local) (hc : Names X x c) (tk : L2N.Takes X W) (hx : ExmF (gc X) c tab)
    (hb : ∀ (W : WX) (pn : List (Addr × Obj)) (xe : Value → Shared → Prop), L2N.Takes (X.tr pn xe) W → PassesOwn (model X.prog X.w) X.A X.env xe → ∃ t, SSs (X.tr pn xe) W body t db) (hsu : SU X (b₀ :: suite) (some i) ts ds) :
    SS X W (.Try body [.ExceptHandler (some (.Name x np)) (some n) (b₀ :: suite) pos'] [] [] pos) (fun D σ H => tSem X (wAs X.K c i ts W D) db D σ H) (tryAsD i tab db ds) := by
  refine ⟨L2N.ps_try_as (tb := fun W' => tSem X W' db) hs hf hN hi hln hc tk (fun W' pn xe t' p' => ?_) (fun a oe cls d pn => hsu.pss a oe cls d pn), fun r s H env st D E R h => ⟨r, env, st, E, R, ?_⟩⟩
  · obtain ⟨t, q⟩ := hb W' pn xe t' p'
    exact ss_sem q
  · unfold tryAsD at h
    cases z : db env st with
    | stuck => rw [z] at h; exact h
    | ok f st' =>
      rw [z] at h
      cases f <;> exact h
    | exc e env' st' =>
      rw [z] at h
      intro r' H' s' cls dd t1 R1 E1 k
      obtain ⟨C, m1, rfl, k2⟩ := id k
      simp only at h
      cases q : tab e.c with
      | none => rw [q] at h; exact h.elim
      | some b =>
        rw [q] at h
        refine ⟨b, hx _ _ q C m1, fun hb a na => ?_, fun hb => ?_⟩
        · subst hb
          simp only at h
          split at h
          · rename_i hil
            refine hsu.so a _ dd e r' _ H' (env'.set i none) st' _ na k (fun j hj => by cases hj; rw [List.getElem?_set_self (by rw [E1.1]; exact hil)]) (E1.gone i _) R1 ?_
            replace h := PostS.mono t1 h
            cases w : ds e (env'.set i none) st' with
            | stuck => rw [w] at h; exact h
            | exc e2 v2 st2 => rw [w] at h; exact h.elim
            | ok f st2 =>
              rw [w] at h
              cases f with
              | nx e2 => exact fun r2 H2 s2 t2 R2 E2 => h r2 H2 _ t2 R2 (E2.gone i none)
              | bk e2 => exact fun r2 H2 s2 t2 R2 E2 => h r2 H2 _ t2 R2 (E2.gone i none)
              | ct e2 => exact fun r2 H2 s2 t2 R2 E2 => h r2 H2 _ t2 R2 (E2.gone i none)
              | rt p => exact h
          · exact h.elim
        · subst hb
          exact h r' H' s' _ dd t1 R1 E1 k
/-! ### tuple(range(i, j)) -/
def trg2VD (d e : DE) : DE := fun env st => (d env st).bind fun p st => (e env st).bind fun q st => match p, q with
  | .int i, .int j => if 0 ≤ i ∧ i ≤ 10000 ∧ 0 ≤ j ∧ j ≤ 10000 then .ok (.tup (intL i (j - i).toNat)) st else .stuck
  | _, _ => .stuck
theorem rg2_rep {G : GC} {r : CD.Loc} {H : Hp} {i j : Int} : RepL G r H (intL i (j - i).toNat) (rgV i j) := by
  unfold rgV intL
  refine RepL.of_get (by simp) fun k x y e1 e2 => ?_
  rw [List.getElem?_map] at e1 e2
  by_cases hk : k < (j - i).toNat
  · rw [List.getElem?_range hk] at e1 e2
    cases e1; cases e2
    simp only [Rep]
  · rw [List.getElem?_eq_none (by simp; omega)] at e1; cases e1
theorem se_tupRg2V {a b : Expr} {ta tb : TE} {d e : DE} {p pos p2 pos2 : Pos} (hc : X.calm = true) (hg : Gl X "tuple") (hm : X.mg "tuple" = none) (hg2 : Gl X "range") (hm2 : X.mg "range" = none) (ha : SE X W a ta d) (hb : SE X W b tb e)
    (na : starEach [.Call (.Name "range" p2) [a, b] [] pos2] X.env = (false, eval (.Call (.Name "range" p2) [a, b] [] pos2) X.env) :: starEach [] X.env := by rfl) (na2 : starEach [a, b] X.env = (false, eval a X.env) :: starEach [b] X.env := by rfl) (na3 : starEach [b] X.env = (false, eval b X.env) :: starEach [] X.env := by rfl) (na4 : (backTo pos2 (starEach [b] X.env)).any (·.1) = false := by rfl) :
    SE X W (.Call (.Name "tuple" p) [.Call (.Name "range" p2) [a, b] [] pos2] [] pos) (tTupRg (tRg2 ta tb)) (trg2VD d e) := by
  refine ⟨pe_tupRg hc hg hm (prg_2 hg2 hm2 ha.pe hb.pe na2 na3 na4) na, fun r s H env st Q E R h => ha.so r s H env st _ E R (h.bind.imp fun p st1 r1 H1 t1 R1 h1 x hx => ?_)⟩
  refine hb.so r1 s H1 env st1 _ (E.step t1) R1 (h1.bind.imp fun q st2 r2 H2 t2 R2 h2 y hy => ?_)
  split at h2
  · rename_i i j
    split at h2
    · rename_i hn
      simp only [Rep] at hx hy
      exact ⟨i, j, hx, hy, RgOk.of_le hn.1 (by omega) (by omega) hn.2.2.1, fun q nq => h2 r2 _ (Step.new1 nq) (R2.new1 nq) _ (Rep.newTup R2 nq rg2_rep)⟩
    · exact h2.elim
  · exact h2.elim
theorem ev_trg2V {d e : DE} {env : PEnv} {st : Store} {i j : Int} (h : d env st = .ok (.int i) st) (h' : e env st = .ok (.int j) st) (h0 : 0 ≤ i ∧ i ≤ 10000 ∧ 0 ≤ j ∧ j ≤ 10000) : trg2VD d e env st = .ok (.tup (intL i (j - i).toNat)) st := by
  unfold trg2VD; rw [h]; simp only [Res.bind]; rw [h']; simp only [if_pos h0]
/-! ### a clause takes its own class -/
theorem exm_own {K : PySem.W.Frag} {C D : Addr} {b : Bool} (hs : PySem.W.subIn K (.ref D) (.type "BaseException") = some true) (hd : PySem.W.hasDictIn K D = true) (ht : PySem.W.typeIn K (.ref D) = some (.type "type")) (h : PySem.W.subIn K (.ref C) (.ref D) = some b) : PySem.W.exmOne K (.ref C) (.ref D) = some b := PySem.W.exm_ref hs hd ht h
end CD

set_option Elab.async false
set_option linter.all false
set_option maxRecDepth 100000
set_option maxHeartbeats 2000000
namespace CD
open PySem PySem.Spec PyProof.Rows L2 RZ StX ClX
variable {X : Cx} {W : WX}
/-! ### sorted of a list of tuples of a text and some ints -/
abbrev TK := Str × List Int
def tkD (t : TK) : PyData := .tuple (.str t.1 :: t.2.map .int)
def tkP (t : TK) : PV := .tup (.str t.1 :: t.2.map .int)
def ltTk (a b : TK) : Bool := PySem.W.dataLt (tkD a) (tkD b)
def sortT (ts : List TK) : List TK := ts.mergeSort (PySem.W.dataLe false tkD)
theorem leT_eq (a b : TK) : PySem.W.dataLe false tkD a b = !ltTk b a := by
  rw [PySem.W.dataLe_eq]; rfl
theorem leT_trans (a b c : TK) (h1 : PySem.W.dataLe false tkD a b = true) (h2 : PySem.W.dataLe false tkD b c = true) : PySem.W.dataLe false tkD a c = true := by
  rw [leT_eq, Bool.not_eq_true'] at h1 h2 ⊢
  cases h : ltTk c a with
  | false => rfl
  | true =>
    exfalso
    unfold ltTk PySem.W.dataLt at h h1 h2
    cases q : PyProof.Rows.lexLt PyProof.Rows.itemOrd (PySem.W.keyToks (tkD a)) (PySem.W.keyToks (tkD b)) with
    | true =>
      have := lex_trans _ _ _ h q
      rw [h2] at this; cases this
    | false =>
      have e := lex_total _ _ q h1
      rw [e, h2] at h; cases h
theorem leT_total (a b : TK) : (PySem.W.dataLe false tkD a b || PySem.W.dataLe false tkD b a) = true := by
  rw [leT_eq, leT_eq]
  cases h : ltTk b a with
  | false => rfl
  | true =>
    cases h2 : ltTk a b with
    | false => rfl
    | true =>
      exfalso
      unfold ltTk PySem.W.dataLt at h h2
      have := lex_trans _ _ _ h h2
      rw [lex_irrefl] at this; cases this
theorem sortT_only {P Q : List TK} (h : P.Perm Q) (hs : Q.Pairwise fun a b => ltTk a b = true) : sortT P = Q := by
  have h1 := List.pairwise_mergeSort leT_trans leT_total P
  have hp : (sortT P).Perm Q := (List.mergeSort_perm P _).trans h
  have h2 : Q.Pairwise fun a b => PySem.W.dataLe false tkD a b = true := hs.imp fun {a b} q => by
    rw [leT_eq, Bool.not_eq_true']
    cases h2 : ltTk b a with
    | false => rfl
    | true =>
      exfalso
      unfold ltTk PySem.W.dataLt at q h2
      have := lex_trans _ _ _ h2 q
      rw [lex_irrefl] at this; cases this
  refine List.Perm.eq_of_pairwise (le := fun a b => PySem.W.dataLe false tkD a b = true) (fun a b ha hb l1 l2 => ?_) h1 h2 hp
  have ha := hp.mem_iff.mp ha
  by_cases e : a = b
  · exact e
  · exfalso
    obtain ⟨i, hi⟩ := List.mem_iff_getElem?.mp ha
    obtain ⟨j, hj⟩ := List.mem_iff_getElem?.mp hb
    have hij : i ≠ j := fun z => by subst z; rw [hi] at hj; cases hj; exact e rfl
    rw [leT_eq, Bool.not_eq_true'] at l1 l2
    have hil := lt_of_get hi
    have hjl := lt_of_get hj
    have ei := (List.getElem?_eq_some_iff.mp hi).2
    have ej := (List.getElem?_eq_some_iff.mp hj).2
    rcases Nat.lt_or_gt_of_ne hij with g | g
    · have := List.pairwise_iff_getElem.mp hs i j hil hjl g
      rw [ei, ej, l2] at this; cases this
    · have := List.pairwise_iff_getElem.mp hs j i hjl hil g
      rw [ei, ej, l1] at this; cases this
def rSortT (K : PySem.W.Frag) : List V → Hp → VK → Prop := fun xs H Q => ∃ (a : Addr) (ys : List V) (ts : List TK), xs = [V.ref a] ∧ SqL K H a ys ∧ DpAll K H ys (ts.map tkD) ∧ (∀ t ∈ ts, t.2.length ≤ 3) ∧
  ∀ zs : List V, zs.length = ts.length → (∀ (j : Nat) (z : V), zs[j]? = some z → ∃ i : Nat, ys[i]? = some z ∧ ts[i]? = (sortT ts)[j]?) → ∀ p, H p = none → Q (.ref p) (upd H p (.lst zs))
theorem each_get {α β : Type} {R : α → β → Prop} : ∀ {as : List α} {bs : List β}, as.length = bs.length → (∀ (i : Nat) a b, as[i]? = some a → bs[i]? = some b → R a b) → PySem.W.EachIs R as bs
  | [], [], _, _ => .nil
  | [], _ :: _, h, _ => by simp at h
  | _ :: _, [], h, _ => by simp at h
  | a :: as, b :: bs, h, k => .cons (k 0 a b rfl rfl) (each_get (by simpa using h) fun i x y e1 e2 => k (i + 1) x y (by simpa using e1) (by simpa using e2))
theorem each_vals {ys : List V} {ts : List TK} : ∀ {out : List Value} {ss : List TK}, PySem.W.EachIs (fun v t => ∃ (i : Nat) (y : V), ys[i]? = some y ∧ ts[i]? = some t ∧ RelV y v) out ss →
    ∃ zs : List V, Vals zs out ∧ zs.length = ss.length ∧ ∀ (j : Nat) (z : V), zs[j]? = some z → ∃ i : Nat, ys[i]? = some z ∧ ts[i]? = ss[j]?
  | _, _, .nil => ⟨[], .nil, rfl, fun j z h => by simp at h⟩
  | _, _, .cons ⟨i, y, h1, h2, h3⟩ r => by
    obtain ⟨zs, a, b, c⟩ := each_vals r
    refine ⟨y :: zs, .cons h3 a, by simp [b], fun j z h => ?_⟩
    cases j with
    | zero => simp at h; subst h; exact ⟨i, h1, by simpa using h2⟩
    | succ j => obtain ⟨i', q1, q2⟩ := c j z (by simpa using h); exact ⟨i', q1, by simpa using q2⟩
theorem depth_tk {t : TK} : (tkD t).depth ≤ 2 := by
  have : ∀ l : List Int, PyData.depthAll (l.map .int) ≤ 1 := fun l => by
    induction l with
    | nil => simp [PyData.depthAll]
    | cons x l ih => simp only [List.map_cons, PyData.depthAll, PyData.depth]; omega
  have := this t.2
  simp only [tkD, PyData.depth, PyData.depthAll]
  omega
theorem cr_sortT {k : Nat} (hr : Room k X.A) : CallR X (.builtin "sorted") (rSortT X.K) := by
  intro pins s σ H xs us Q I r h
  obtain ⟨a, ys, ts, rfl, hs, hd, hl, q⟩ := h
  obtain ⟨its, rv, pl, hz⟩ := I.list hs
  rw [Vals.ref1 r]
  obtain ⟨as, ra⟩ := Dp.readsAll I _ _ _ hd rv
  have hlen : its.length = ts.length := by
    have h1 := rv.length
    have h2 := dpAll_len hd
    simp at h2; omega
  have hyl : ys.length = its.length := rv.length
  refine PySem.W.sorted_data (bs := ts) (enc := tkD) (R := fun v t => ∃ (i : Nat) (y : V), ys[i]? = some y ∧ ts[i]? = some t ∧ RelV y v) pl.isList (each_get hlen fun i v t e1 e2 => ?_) (PySem.W.readsAll_each tkD ra) ?_ (PySem.W.Sortable.tuples fun t => ⟨_, _, rfl⟩) (by rw [← hlen, ← hyl]; exact hz) (fun t _ => ?_) fun out ho eo => ?_
  · have hi := lt_of_get e1
    obtain ⟨y, hy⟩ : ∃ y, ys[i]? = some y := ⟨_, List.getElem?_eq_getElem (by omega)⟩
    obtain ⟨u, hu, ru⟩ := rv.get hy
    rw [e1] at hu; cases hu
    exact ⟨i, y, hy, e2, ru⟩
  · refine PySem.W.AllAlike.of fun a b => ?_
    simp only [tkD, PySem.W.alike, PySem.W.alikeAll, PySem.W.alike_ints, Bool.and_self]
  · have h1 := hr.units
    have h2 := depth_tk (t := t)
    omega
  · obtain ⟨zs, v1, v2, v3⟩ := each_vals eo
    obtain ⟨ep, he'⟩ := PyProof.Rows.sortedAll_at s.heap its out.toArray
    have hss : (ts.mergeSort (PySem.W.dataLe false tkD)).length = ts.length := (List.mergeSort_perm ts _).length_eq
    exact ⟨.ref _, upd H (s.heap.objs.size + 1) (.lst zs), I.laid (t' := s.toks) (fun _ _ => PyProof.Rows.sortedAll_old) (Nat.le_succ _) ⟨by rw [v2, hss, ← hlen, ← hyl]; exact hz, out, ep, v1, he'⟩, rfl, q zs (by rw [v2, hss]) v3 _ (I.hok.fresh (Nat.le_succ _))⟩
def tkI : PV → Option TK
  | .tup (.str w :: ps) => (intsOf ps).map fun l => (w, l)
  | _ => none
def tksI : List PV → Option (List TK)
  | [] => some []
  | p :: ps => match tkI p, tksI ps with
    | some q, some qs => some (q :: qs)
    | _, _ => none
theorem intsOf_eq : ∀ {ps : List PV} {l : List Int}, intsOf ps = some l → ps = l.map .int
  | [], l, h => by cases h; rfl
  | p :: ps, l, h => by
    cases p with
    | int i =>
      simp only [intsOf] at h
      obtain ⟨l', hl', rfl⟩ := map_some h
      rw [intsOf_eq hl']; rfl
    | _ => simp [intsOf] at h
theorem tkI_ok {p : PV} {t : TK} (h : tkI p = some t) : p = tkP t := by
  unfold tkI at h
  split at h
  · rename_i w ps
    obtain ⟨l, hl, rfl⟩ := map_some h
    rw [intsOf_eq hl]; rfl
  · cases h
theorem tksI_ok : ∀ {ps : List PV} {ts : List TK}, tksI ps = some ts → ps = ts.map tkP
  | [], ts, h => by cases h; rfl
  | p :: ps, ts, h => by
    unfold tksI at h
    split at h
    · rename_i q qs' h1 h2
      cases h
      rw [List.map_cons, ← tkI_ok h1, ← tksI_ok h2]
    · cases h
theorem tksI_map : ∀ ts : List TK, tksI (ts.map tkP) = some ts
  | [] => rfl
  | t :: ts => by
    have := tksI_map ts
    rw [List.map_cons]
    unfold tksI
    rw [this]
    have e : tkI (tkP t) = some t := by
      unfold tkP tkI
      simp only [intsOf_map]; rfl
    rw [e]
def sortTF : List PV → M PV
  | [p] => fun st => match sqlOf st p with
    | some xs => match tksI xs with
      | some ts => if ∀ t ∈ ts, t.2.length ≤ 3 then .ok (.lst ((sortT ts).map tkP)) st else .stuck
      | _ => .stuck
    | none => .stuck
  | _ => nope
theorem scall_sortT {G : GC} : SCall G (rSortT G.K) sortTF := by
  intro r H st ps xs E Q R hx h
  unfold sortTF at h
  split at h
  · obtain ⟨v, rfl, q⟩ := rep1 hx
    split at h
    · rename_i ys hs
      split at h
      · rename_i ts hn
        split at h
        · rename_i hl
          obtain ⟨a, vs, e, f, l⟩ := sqlOf_ok R q hs
          subst e
          have := tksI_ok hn
          subst this
          refine ⟨a, vs, ts, rfl, f, ?_, hl, fun zs hz hzs p n => ?_⟩
          · refine toDL_ok (h := noD) (fun l d v e => by cases e) _ vs _ l ?_
            refine toDL_map _ fun x _ => ?_
            have e : toDL noD (x.2.map PV.int) = some (x.2.map PyData.int) := toDL_map _ fun y _ => by simp [toD]
            simp [tkP, toD, toDL, tkD, e]
          · refine h r _ (Step.new1 n) (R.new1 n) _ (Rep.newLst R n (RepL.of_get ?_ fun j x y e1 e2 => ?_))
            · rw [List.length_map, hz]; exact (List.mergeSort_perm ts _).length_eq
            · obtain ⟨i, g1, g2⟩ := hzs j y e2
              rw [List.getElem?_map] at e1
              obtain ⟨t, ht, rfl⟩ := map_some e1
              rw [ht] at g2
              obtain ⟨y', hy', k⟩ := l.get (i := i) (x := tkP t) (by rw [List.getElem?_map, g2]; rfl)
              rw [g1] at hy'; cases hy'
              exact k
        · exact h.elim
      · exact h.elim
    · exact h.elim
  · exact h.elim
theorem ev_sortT {ts : List TK} {p : PV} {st : Store} (h : sqlOf st p = some (ts.map tkP)) (hl : ∀ t ∈ ts, t.2.length ≤ 3) : sortTF [p] st = .ok (.lst ((sortT ts).map tkP)) st := by
  unfold sortTF
  simp only [h, tksI_map]
  rw [if_pos hl]
end CD

set_option Elab.async false
set_option linter.all false
set_option maxRecDepth 100000
set_option maxHeartbeats 2000000
namespace CD
open PySem PySem.Spec PyProof.Rows L2 RZ StX ClX
/-! ### a def that is called with places, and leaves them as they are -/
mutual
def locsP : PV → List Nat
  | .loc l => [l]
  | .tup xs => locsL xs
  | .lst xs => locsL xs
  | _ => []
def locsL : List PV → List Nat
  | [] => []
  | x :: xs => locsP x ++ locsL xs
end
mutual
/-- no list, and none of the places -/
def noLP (ls : List Nat) : PV → Bool
  | .loc l => !ls.contains l
  | .lst _ => false
  | .rls _ => false
  | .tup xs => noLL ls xs
  | .obj _ _ fs => noLL ls fs
  | .dct _ _ xs => noLL ls xs
  | _ => true
def noLL (ls : List Nat) : List PV → Bool
  | [] => true
  | x :: xs => noLP ls x && noLL ls xs
end
def noLC (ls : List Nat) : Cell → Bool
  | .dead => true
  | .lst xs => noLL ls xs
  | .ins _ _ fs => noLL ls fs
  | .dct _ xs => noLL ls xs
def killC (st : Store) (ls : List Nat) : Store := st.mapIdx fun i c => if i ∈ ls then .dead else c
def brwS (st : Store) (ls : List Nat) (l : Nat) : Option PV := if l ∈ ls then (match st[l]? with
  | some (.lst xs) => some (.lst xs)
  | _ => none) else some (.loc l)
open Classical in
noncomputable def brw (F : List PV → M PV) : List PV → M PV := fun ps st => match subL (brwS st (locsL ps)) ps with
  | some qs => match F qs (killC st (locsL ps)) with
    | .ok p s2 => if s2 = killC st (locsL ps) ∧ noLP (locsL ps) p = true ∧ (∀ (i : Nat) c, st[i]? = some c → i ∉ locsL ps → noLC (locsL ps) c = true) then .ok p st else .stuck
    | _ => .stuck
  | none => .stuck
theorem killC_at {st : Store} {ls : List Nat} {i : Nat} : (killC st ls)[i]? = (st[i]?).map fun c => if i ∈ ls then .dead else c := by
  unfold killC; rw [List.getElem?_mapIdx]
def Loc.killL (r : Loc) (ls : List Nat) : Loc := ⟨r.s.mapIdx fun i o => if i ∈ ls then none else o, r.hid⟩
theorem killL_at {r : Loc} {ls : List Nat} {i : Nat} {a : Addr} (e : (r.killL ls).s[i]? = some (some a)) : i ∉ ls ∧ r.s[i]? = some (some a) := by
  unfold Loc.killL at e; dsimp only at e
  rw [List.getElem?_mapIdx] at e
  obtain ⟨o, ho, e⟩ := map_some e
  split at e
  · cases e
  · rename_i h; subst e; exact ⟨h, ho⟩
theorem killL_len {r : Loc} {ls : List Nat} : (r.killL ls).s.length = r.s.length := by unfold Loc.killL; simp
theorem Step.killL {r : Loc} {H : Hp} {ls : List Nat} : Step r H (r.killL ls) H :=
  ⟨fun _ _ _ h => h, fun _ h => h, by rw [killL_len]; exact Nat.le_refl _, fun l' a _ e => (killL_at e).2, fun l' a h e => absurd (lt_of_get (killL_at e).2) (Nat.not_lt.mpr h), rfl⟩
theorem SRel.killL {G : GC} {r : Loc} {H : Hp} {st : Store} {ls : List Nat} (R : SRel G r H st) : SRel G (r.killL ls) H (killC st ls) where
  len := by rw [killL_len, R.len]; unfold killC; simp
  at_ := fun l' a e => by
    obtain ⟨n, e⟩ := killL_at e
    obtain ⟨c, e1, k⟩ := R.at_ l' a e
    exact ⟨c, by rw [killC_at, e1]; simp [n], k.step Step.killL rfl⟩
  has := fun l' c e hd => by
    rw [killC_at] at e
    obtain ⟨c', h1, e⟩ := map_some e
    split at e
    · subst e; cases hd
    · rename_i h
      subst e
      obtain ⟨a, q⟩ := R.has l' _ h1 hd
      refine ⟨a, ?_⟩
      unfold Loc.killL; dsimp only
      rw [List.getElem?_mapIdx, q]; simp [h]
  inj := fun l1 l2 a e1 e2 => R.inj l1 l2 a (killL_at e1).2 (killL_at e2).2
  hd := R.hd
  dis := fun a z m => by
    obtain ⟨l', e⟩ := live_at.mp z
    exact R.dis a (live_at.mpr ⟨l', (killL_at e).2⟩) m
/-- what was given up comes back -/
def Loc.backL (r2 r : Loc) (ls : List Nat) : Loc := ⟨r2.s.mapIdx fun i o => if i ∈ ls then (r.s[i]?).getD none else o, r2.hid⟩
theorem backL_at {r2 r : Loc} {ls : List Nat} {i : Nat} {a : Addr} (e : (r2.backL r ls).s[i]? = some (some a)) : (i ∈ ls ∧ r.s[i]? = some (some a)) ∨ (i ∉ ls ∧ r2.s[i]? = some (some a)) := by
  unfold Loc.backL at e; dsimp only at e
  rw [List.getElem?_mapIdx] at e
  obtain ⟨o, ho, e⟩ := map_some e
  split at e
  · rename_i h
    refine .inl ⟨h, ?_⟩
    cases q : r.s[i]? with
    | none => rw [q] at e; cases e
    | some z => rw [q] at e; simp at e; rw [e]
  · rename_i h; subst e; exact .inr ⟨h, ho⟩
section
variable {G : GC} {r2 r : Loc} {H : Hp} {ls : List Nat}
mutual
theorem rep_back (hav : ∀ b, av (r2.backL r ls) b → av r2 b ∨ ∃ vs, H b = some (.lst vs)) (hlen : r2.s.length ≤ r.s.length) : ∀ (p : PV) (v : V), noLP ls p = true → Rep G r2 H p v → Rep G (r2.backL r ls) H p v
  | .non, _, _, h => by simp only [Rep] at h ⊢; exact h
  | .bl _, _, _, h => by simp only [Rep] at h ⊢; exact h
  | .int _, _, _, h => by simp only [Rep] at h ⊢; exact h
  | .str _, _, _, h => by simp only [Rep] at h ⊢; exact h
  | .ty _, _, _, h => by simp only [Rep] at h ⊢; exact h
  | .gl _, _, _, h => by simp only [Rep] at h ⊢; exact h
  | .tup xs, v, n, h => by
    simp only [noLP] at n
    simp only [Rep] at h ⊢
    obtain ⟨a, vs, e, f, l⟩ := h
    refine ⟨a, vs, e, f.elim (fun f => .inl ⟨f.1, fun z => ?_⟩) .inr, repL_back hav hlen xs vs n l⟩
    rcases hav a z with z | ⟨ws, z⟩
    · exact f.2 z
    · rcases f.1 with q | ⟨o, q⟩ <;> (rw [z] at q; cases q)
  | .lst _, _, n, _ => by simp [noLP] at n
  | .rls _, _, n, _ => by simp [noLP] at n
  | .obj c ns fs, v, n, h => by
    simp only [noLP] at n
    simp only [Rep] at h ⊢
    obtain ⟨a, C, dx, gs, e, m, f, z, nv, l⟩ := h
    refine ⟨a, C, dx, gs, e, m, f, z, fun y => ?_, repL_back hav hlen fs gs n l⟩
    rcases hav a y with y | ⟨ws, y⟩
    · exact nv y
    · rw [y] at f; cases f
  | .loc l, v, n, h => by
    simp only [noLP, Bool.not_eq_true'] at n
    have n' : l ∉ ls := fun z => by rw [List.contains_iff_mem.mpr z] at n; cases n
    simp only [Rep] at h ⊢
    refine ⟨by unfold Loc.backL; simpa using h.1, fun a e => ?_⟩
    rcases backL_at e with ⟨q, _⟩ | ⟨_, q⟩
    · exact absurd q n'
    · exact h.2 a q
  | .dct lk ks xs, v, n, h => by
    simp only [noLP] at n
    simp only [Rep] at h ⊢
    obtain ⟨a, vs, e, f, z, nv, l⟩ := h
    refine ⟨a, vs, e, f, z, fun y => ?_, repL_back hav hlen xs vs n l⟩
    rcases hav a y with y | ⟨ws, y⟩
    · exact nv y
    · rcases f.rd with q | ⟨o, q⟩ <;> (rw [y] at q; cases q)
theorem repL_back (hav : ∀ b, av (r2.backL r ls) b → av r2 b ∨ ∃ vs, H b = some (.lst vs)) (hlen : r2.s.length ≤ r.s.length) : ∀ (p : List PV) (v : List V), noLL ls p = true → RepL G r2 H p v → RepL G (r2.backL r ls) H p v
  | [], _, _, h => by simp only [RepL] at h ⊢; exact h
  | x :: xs, vs, n, h => by
    simp only [noLL, Bool.and_eq_true] at n
    simp only [RepL] at h ⊢
    obtain ⟨v, ws, e, a, b⟩ := h
    exact ⟨v, ws, e, rep_back hav hlen x v n.1 a, repL_back hav hlen xs ws n.2 b⟩
end
end
theorem spF_brw {G : GC} {n : Nat} {F : List PV → M PV} {vs : List V} {H : Hp} {Q : VK} {E : Value → Option Addr → Hp → Prop} (h : SpF G n (brw F) vs H Q E) : SpF G n F vs H Q E := by
  obtain ⟨hn, r, ps, st, l, R, post⟩ := h
  unfold brw at post
  generalize hls : locsL ps = ls at post
  split at post
  · rename_i qs hq
    have hh : ∀ l p v, brwS st ls l = some p → Rep G r H (.loc l) v → Rep G (r.killL ls) H p v := fun l p v e k => by
      unfold brwS at e
      split at e
      · rename_i hm
        split at e
        · rename_i xs hx
          cases e
          obtain ⟨a, rfl, ha, ws, ea, la⟩ := loc_ok R k hx rfl
          simp only [Rep]
          refine ⟨a, ws, rfl, ea, fun z => ?_, RepL.step Step.killL _ _ la⟩
          rcases z with z | z
          · obtain ⟨l', e'⟩ := live_at.mp z
            obtain ⟨n1, n2⟩ := killL_at e'
            exact n1 (R.inj _ _ _ n2 ha ▸ hm)
          · exact R.dis a (live_at.mpr ⟨l, ha⟩) z
        · cases e
      · cases e; exact Rep.step Step.killL _ _ k
    have hav : ∀ a, ¬ av r a → ¬ av (r.killL ls) a := fun a n z => by
      rcases z with z | z
      · obtain ⟨l', e'⟩ := live_at.mp z
        exact n (.inl (live_at.mpr ⟨l', (killL_at e').2⟩))
      · exact n (.inr z)
    refine ⟨hn, r.killL ls, qs, killC st ls, subL_rep hav hh ps qs vs l hq, R.killL, ?_⟩
    split at post
    · rename_i p s2 hF
      split at post
      · rename_i hc
        obtain ⟨rfl, np, nc⟩ := hc
        rw [hF]
        intro r2 H2 s R2 v kv
        have l2 : r2.s.length = r.s.length := by rw [R2.len, R.len]; unfold killC; simp
        have at_ls : ∀ (i : Nat) (a : Addr), i ∈ ls → r.s[i]? = some (some a) → ∀ c, st[i]? = some c → ¬ live (r.killL ls) a := fun i a hi ha c hc z => by
          obtain ⟨l', e'⟩ := live_at.mp z
          obtain ⟨n1, n2⟩ := killL_at e'
          exact n1 (R.inj _ _ _ n2 ha ▸ hi)
        have S : Step r H (r2.backL r ls) H2 := by
          refine ⟨fun b o nb hb => s.keep b o (fun z => ?_) hb, s.there, by unfold Loc.backL; simp [l2], fun l' b hl e => ?_, fun l' b hl e => ?_, s.hid⟩
          · obtain ⟨l', e'⟩ := live_at.mp z
            exact nb (live_at.mpr ⟨l', (killL_at e').2⟩)
          · rcases backL_at e with ⟨_, q⟩ | ⟨_, q⟩
            · exact q
            · exact (killL_at (s.old l' b (by rw [killL_len]; exact hl) q)).2
          · rcases backL_at e with ⟨_, q⟩ | ⟨_, q⟩
            · exact absurd (lt_of_get q) (Nat.not_lt.mpr hl)
            · exact absurd (lt_of_get q) (by omega)
        have hpl : ∀ (i : Nat) (a : Addr), i ∈ ls → r.s[i]? = some (some a) → i < st.length := fun i a _ h => by rw [← R.len]; exact lt_of_get h
        -- the places that came back hold lists
        have hlst : ∀ (i : Nat) (a : Addr), i ∈ ls → r.s[i]? = some (some a) → ∀ xs, st[i]? = some (.lst xs) → ∃ ws, H2 a = some (.lst ws) ∧ RepL G r H xs ws := fun i a hi ha xs hx => by
          obtain ⟨c, hc, k⟩ := R.at_ i a ha
          rw [hx] at hc; cases hc
          obtain ⟨ws, e, lw⟩ := k
          exact ⟨ws, s.keep a _ (at_ls i a hi ha _ hx) e, lw⟩
        have cells : ∀ i ∈ ls, ∃ xs, st[i]? = some (.lst xs) := fun i hi => by
          subst hls
          have key : (∀ p : PV, ∀ q, sub (brwS st (locsL ps)) p = some q → ∀ i ∈ locsP p, i ∈ locsL ps → ∃ xs, st[i]? = some (.lst xs)) ∧ ∀ pl : List PV, ∀ ql, subL (brwS st (locsL ps)) pl = some ql → ∀ i ∈ locsL pl, i ∈ locsL ps → ∃ xs, st[i]? = some (.lst xs) := by
            have go : ∀ n : Nat, (∀ p : PV, sizeOf p ≤ n → ∀ q, sub (brwS st (locsL ps)) p = some q → ∀ i ∈ locsP p, i ∈ locsL ps → ∃ xs, st[i]? = some (.lst xs)) ∧ ∀ pl : List PV, sizeOf pl ≤ n → ∀ ql, subL (brwS st (locsL ps)) pl = some ql → ∀ i ∈ locsL pl, i ∈ locsL ps → ∃ xs, st[i]? = some (.lst xs) := fun n => by
              induction n with
              | zero => exact ⟨fun p hp => by cases p <;> simp at hp, fun pl hp => by cases pl <;> simp at hp⟩
              | succ n ih =>
                refine ⟨fun p hp q hq i hi hm => ?_, fun pl hp ql hq i hi hm => ?_⟩
                · cases p with
                  | loc l =>
                    simp only [locsP, List.mem_singleton] at hi
                    subst hi
                    simp only [sub, brwS, if_pos hm] at hq
                    split at hq
                    · rename_i xs hx; exact ⟨xs, hx⟩
                    · cases hq
                  | tup xs =>
                    simp only [locsP] at hi
                    simp only [sub] at hq
                    obtain ⟨ys, ey, rfl⟩ := map_some hq
                    exact ih.2 xs (by simp at hp; omega) ys ey i hi hm
                  | lst xs =>
                    simp only [locsP] at hi
                    simp only [sub] at hq
                    obtain ⟨ys, ey, rfl⟩ := map_some hq
                    exact ih.2 xs (by simp at hp; omega) ys ey i hi hm
                  | _ => simp [locsP] at hi
                · cases pl with
                  | nil => simp [locsL] at hi
                  | cons x xs =>
                    simp only [locsL, List.mem_append] at hi
                    simp only [subL] at hq
                    split at hq
                    · rename_i y ys e1 e2
                      rcases hi with hi | hi
                      · exact ih.1 x (by simp at hp; omega) y e1 i hi hm
                      · exact ih.2 xs (by simp at hp; omega) ys e2 i hi hm
                    · cases hq
            exact ⟨fun p => (go (sizeOf p)).1 p (Nat.le_refl _), fun pl => (go (sizeOf pl)).2 pl (Nat.le_refl _)⟩
          exact key.2 ps qs hq i hi hi
        have hav2 : ∀ b, av (r2.backL r ls) b → av r2 b ∨ ∃ ws, H2 b = some (.lst ws) := fun b z => by
          rcases z with z | z
          · obtain ⟨i, e⟩ := live_at.mp z
            rcases backL_at e with ⟨q1, q2⟩ | ⟨_, q⟩
            · obtain ⟨xs, hx⟩ := cells i q1
              obtain ⟨ws, e1, _⟩ := hlst i b q1 q2 xs hx
              exact .inr ⟨ws, e1⟩
            · exact .inl (.inl (live_at.mpr ⟨i, q⟩))
          · exact .inl (.inr z)
        have SR : SRel G (r2.backL r ls) H2 st := by
          refine ⟨by unfold Loc.backL; simp [l2, R.len], fun i b e => ?_, fun i c hc hd => ?_, fun i j b e1 e2 => ?_, R2.hd, fun b z m => ?_⟩
          · rcases backL_at e with ⟨q1, q2⟩ | ⟨q1, q2⟩
            · obtain ⟨xs, hx⟩ := cells i q1
              obtain ⟨ws, e1, lw⟩ := hlst i b q1 q2 xs hx
              exact ⟨_, hx, ws, e1, RepL.step S _ _ lw⟩
            · obtain ⟨c, hc, k⟩ := R2.at_ i b q2
              rw [killC_at] at hc
              obtain ⟨c', hc', e2⟩ := map_some hc
              rw [if_neg q1] at e2
              subst e2
              refine ⟨_, hc', ?_⟩
              have hn := nc i _ hc' q1
              have le2 : r2.s.length ≤ r.s.length := by omega
              cases c' with
              | dead => exact k.elim
              | lst xs => obtain ⟨ws, a1, a2⟩ := k; exact ⟨ws, a1, repL_back hav2 le2 xs ws hn a2⟩
              | ins c ns fs => obtain ⟨C, dx, gs, a1, a2, a3, a4⟩ := k; exact ⟨C, dx, gs, a1, a2, a3, repL_back hav2 le2 fs gs hn a4⟩
              | dct ks xs => obtain ⟨ws, a1, a2, a3⟩ := k; exact ⟨ws, a1, a2, repL_back hav2 le2 xs ws hn a3⟩
          · by_cases q : i ∈ ls
            · obtain ⟨a, ha⟩ := R.has i c hc hd
              refine ⟨a, ?_⟩
              unfold Loc.backL; dsimp only
              rw [List.getElem?_mapIdx, List.getElem?_eq_getElem (show i < r2.s.length by rw [l2]; exact lt_of_get ha)]
              simp [q, ha]
            · obtain ⟨a, ha⟩ := R2.has i c (by rw [killC_at, hc]; simp [q]) hd
              refine ⟨a, ?_⟩
              unfold Loc.backL; dsimp only
              rw [List.getElem?_mapIdx, ha]; simp [q]
          · have old : ∀ {i : Nat}, i ∉ ls → r2.s[i]? = some (some b) → r.s[i]? = some (some b) := fun {i} n q => (killL_at (s.old i b (by rw [killL_len, ← l2]; exact lt_of_get q) q)).2
            have o1 : r.s[i]? = some (some b) := by rcases backL_at e1 with ⟨_, q⟩ | ⟨n, q⟩; exact q; exact old n q
            have o2 : r.s[j]? = some (some b) := by rcases backL_at e2 with ⟨_, q⟩ | ⟨n, q⟩; exact q; exact old n q
            exact R.inj i j b o1 o2
          · obtain ⟨i, e⟩ := live_at.mp z
            rcases backL_at e with ⟨_, q⟩ | ⟨_, q⟩
            · have m' : b ∈ r2.hid := m
              rw [s.hid] at m'
              exact R.dis b (live_at.mpr ⟨i, q⟩) m'
            · exact R2.dis b (live_at.mpr ⟨i, q⟩) m
        exact post _ H2 S SR v (rep_back hav2 (by omega) p v np kv)
      · exact post.elim
    · exact post.elim
  · exact post.elim
theorem FnD.brw {P : Program} {w : World} {G : GC} {base : Heap} {k : Nat} {f : Addr} {fd : FuncData} {ps : List Str} {F : List PV → M PV} (h : FnD P w G base k f fd ps F) : FnD P w G base k f fd ps (brw F) :=
  FnOk.imp h fun vs H Q E q => spF_brw q
end CD

set_option Elab.async false
set_option linter.all false
set_option maxRecDepth 100000
set_option maxHeartbeats 2000000
namespace CD
open PySem PySem.Spec PyProof.Rows L2 RZ StX ClX
/-! ### a def that is called with lists that are places, and can change nothing -/
def deadS (st : Store) : Store := st.map fun _ => .dead
def ground : PV → Bool
  | .bl _ => true
  | .int _ => true
  | .str _ => true
  | .non => true
  | _ => false
def heldS (st : Store) (l : Nat) : Option PV := match st[l]? with
  | some (.lst xs) => some (.lst xs)
  | _ => none
def brwA (F : List PV → M PV) : List PV → M PV := fun ps st => match subL (heldS st) ps with
  | some qs => match F qs (deadS st) with
    | .ok p s2 => if s2.all isDead = true ∧ s2.length = st.length ∧ ground p = true then .ok p st else .stuck
    | _ => .stuck
  | none => .stuck
def Loc.none (r : Loc) : Loc := ⟨r.s.map fun _ => Option.none, r.hid⟩
theorem none_at {r : Loc} {i : Nat} {a : Addr} (e : r.none.s[i]? = some (some a)) : False := by
  unfold Loc.none at e; dsimp only at e
  rw [List.getElem?_map] at e
  obtain ⟨o, _, e⟩ := map_some e
  cases e
theorem Step.none {r : Loc} {H : Hp} : Step r H r.none H :=
  ⟨fun _ _ _ h => h, fun _ h => h, by unfold Loc.none; simp, fun _ _ _ e => (none_at e).elim, fun _ _ _ e => (none_at e).elim, rfl⟩
theorem SRel.none {G : GC} {r : Loc} {H : Hp} {st : Store} (R : SRel G r H st) : SRel G r.none H (deadS st) where
  len := by unfold Loc.none deadS; simp [R.len]
  at_ := fun _ _ e => (none_at e).elim
  has := fun l c e hd => by
    unfold deadS at e
    rw [List.getElem?_map] at e
    obtain ⟨o, _, e⟩ := map_some e
    subst e; cases hd
  inj := fun _ _ _ e _ => (none_at e).elim
  hd := R.hd
  dis := fun a z _ => by
    obtain ⟨l', e⟩ := live_at.mp z
    exact none_at e
theorem spF_brwA {G : GC} {n : Nat} {F : List PV → M PV} {vs : List V} {H : Hp} {Q : VK} {E : Value → Option Addr → Hp → Prop} (h : SpF G n (brwA F) vs H Q E) : SpF G n F vs H Q E := by
  obtain ⟨hn, r, ps, st, l, R, post⟩ := h
  unfold brwA at post
  split at post
  · rename_i qs hq
    have hh : ∀ l p v, heldS st l = some p → Rep G r H (.loc l) v → Rep G r.none H p v := fun l p v e k => by
      unfold heldS at e
      split at e
      · rename_i xs hx
        cases e
        obtain ⟨a, rfl, ha, ws, ea, la⟩ := loc_ok R k hx rfl
        simp only [Rep]
        refine ⟨a, ws, rfl, ea, fun z => ?_, RepL.step Step.none _ _ la⟩
        rcases z with z | z
        · obtain ⟨l', e'⟩ := live_at.mp z
          exact none_at e'
        · exact R.dis a (live_at.mpr ⟨l, ha⟩) z
      · cases e
    have hav : ∀ a, ¬ av r a → ¬ av r.none a := fun a n z => by
      rcases z with z | z
      · obtain ⟨l', e'⟩ := live_at.mp z
        exact none_at e'
      · exact n (.inr z)
    refine ⟨hn, r.none, qs, deadS st, subL_rep hav hh ps qs vs l hq, R.none, ?_⟩
    split at post
    · rename_i p s2 hF
      split at post
      · rename_i hc
        obtain ⟨hd, hl, hg⟩ := hc
        rw [hF]
        intro r2 H2 s R2 v kv
        have S : Step r H r H2 := by
          refine ⟨fun b o _ hb => s.keep b o (fun z => ?_) hb, s.there, Nat.le_refl _, fun _ _ _ e => e, fun l b hl e => absurd (lt_of_get e) (Nat.not_lt.mpr hl), rfl⟩
          obtain ⟨l', e'⟩ := live_at.mp z
          exact none_at e'
        have SR : SRel G r H2 st := by
          refine ⟨R.len, fun i b e => ?_, R.has, R.inj, fun a m => s.there a (R.hd a m), R.dis⟩
          obtain ⟨c, hc, k⟩ := R.at_ i b e
          obtain ⟨o, q, _⟩ := k.obj
          refine ⟨c, hc, k.step S ?_⟩
          rw [q]
          refine s.keep b o (fun z => ?_) q
          obtain ⟨l', e'⟩ := live_at.mp z
          exact none_at e'
        refine post r H2 S SR v ?_
        cases p with
        | bl b => simp only [Rep] at kv ⊢; exact kv
        | int b => simp only [Rep] at kv ⊢; exact kv
        | str b => simp only [Rep] at kv ⊢; exact kv
        | non => simp only [Rep] at kv ⊢; exact kv
        | _ => simp [ground] at hg
      · exact post.elim
    · exact post.elim
  · exact post.elim
theorem FnD.brwA {P : Program} {w : World} {G : GC} {base : Heap} {k : Nat} {f : Addr} {fd : FuncData} {ps : List Str} {F : List PV → M PV} (h : FnD P w G base k f fd ps F) : FnD P w G base k f fd ps (brwA F) :=
  FnOk.imp h fun vs H Q E q => spF_brwA q
theorem deadS_all (st : Store) : (deadS st).all isDead = true := by
  unfold deadS
  rw [List.all_map, List.all_eq_true]
  intro _ _; rfl
theorem deadS_len (st : Store) : (deadS st).length = st.length := by unfold deadS; simp
theorem ev_brwA {F : List PV → M PV} {ps qs : List PV} {st : Store} {p : PV} (h : subL (heldS st) ps = some qs) (hF : F qs (deadS st) = .ok p (deadS st)) (hg : ground p = true) : CD.brwA F ps st = .ok p st := by
  unfold CD.brwA
  simp only [h, hF]
  rw [if_pos ⟨deadS_all st, deadS_len st, hg⟩]
/-! ### a def that hands back one of its own places -/
def keepF (F : List PV → M PV) : List PV → M PV := fun ps st => match F ps st with
  | .ok (.loc l) s2 => if st.length ≤ l then match s2[l]? with
    | some (.lst xs) => match subL (lower st.length) xs with
      | some _ => if (s2.take st.length).all (belowC st.length) = true then .ok (.loc st.length) (s2.take st.length ++ [.lst xs]) else .stuck
      | Option.none => .stuck
    | _ => .stuck
    else .stuck
  | _ => .stuck
def Loc.keepL (r : Loc) (n l : Nat) : Loc := ⟨r.s.take n ++ [(r.s[l]?).getD Option.none], r.hid⟩
theorem keepL_at {r : Loc} {n l i : Nat} {a : Addr} (hn : n ≤ r.s.length) (e : (r.keepL n l).s[i]? = some (some a)) : (i < n ∧ r.s[i]? = some (some a)) ∨ (i = n ∧ r.s[l]? = some (some a)) := by
  unfold Loc.keepL at e; dsimp only at e
  have hl : (r.s.take n).length = n := by rw [List.length_take]; omega
  by_cases h : i < n
  · rw [List.getElem?_append_left (by omega), List.getElem?_take, if_pos h] at e
    exact .inl ⟨h, e⟩
  · rw [List.getElem?_append_right (by omega), hl] at e
    have hz := lt_of_get e
    simp at hz
    have : i - n = 0 := by omega
    rw [this] at e
    simp at e
    refine .inr ⟨by omega, ?_⟩
    cases q : r.s[l]? with
    | none => rw [q] at e; cases e
    | some z => rw [q] at e; simp at e; rw [e]
theorem spF_keep {G : GC} {n : Nat} {F : List PV → M PV} {vs : List V} {H : Hp} {Q : VK} {E : Value → Option Addr → Hp → Prop} (h : SpF G n (keepF F) vs H Q E) : SpF G n F vs H Q E := by
  obtain ⟨hl, r, ps, st, l0, R, post⟩ := h
  refine ⟨hl, r, ps, st, l0, R, ?_⟩
  unfold keepF at post
  split at post
  · rename_i l s2 hF
    rw [hF]
    split at post
    · rename_i hnl
      split at post
      · rename_i xs hx
        split at post
        · rename_i ys hy
          split at post
          · rename_i hb
            intro r' H' t R' v k
            have hn : st.length ≤ s2.length := by rw [← R.len, ← R'.len]; exact t.len
            have hn' : st.length ≤ r'.s.length := by rw [R'.len]; exact hn
            obtain ⟨a, rfl, ha, ws, ea, la⟩ := loc_ok R' k hx rfl
            have hav : ∀ b, ¬ av r' b → ¬ av (r'.keepL st.length l) b := fun b nb z => by
              rcases z with z | z
              · obtain ⟨i, e⟩ := live_at.mp z
                rcases keepL_at hn' e with ⟨_, q⟩ | ⟨_, q⟩
                · exact nb (.inl (live_at.mpr ⟨i, q⟩))
                · exact nb (.inl (live_at.mpr ⟨l, q⟩))
              · exact nb (.inr z)
            have hlen : (r'.keepL st.length l).s.length = st.length + 1 := by unfold Loc.keepL; simp; omega
            have hlo : ∀ i p v, lower st.length i = some p → Rep G r' H' (.loc i) v → Rep G (r'.keepL st.length l) H' p v := fun i p v e q => by
              unfold lower at e
              split at e
              · rename_i hi
                cases e
                simp only [Rep] at q ⊢
                refine ⟨by rw [hlen]; omega, fun b e => ?_⟩
                rcases keepL_at hn' e with ⟨_, q2⟩ | ⟨q1, _⟩
                · exact q.2 b q2
                · omega
              · cases e
            have S : Step r H (r'.keepL st.length l) H' := by
              refine ⟨t.keep, t.there, by rw [hlen, R.len]; omega, fun i b hi e => ?_, fun i b hi e => ?_, t.hid⟩
              · rcases keepL_at hn' e with ⟨_, q⟩ | ⟨q1, _⟩
                · exact t.old i b hi q
                · rw [R.len] at hi; omega
              · rcases keepL_at hn' e with ⟨q1, _⟩ | ⟨_, q⟩
                · rw [R.len] at hi; omega
                · exact t.new l b (by rw [R.len]; exact hnl) q
            have SR : SRel G (r'.keepL st.length l) H' (s2.take st.length ++ [.lst xs]) := by
              have tl : (s2.take st.length).length = st.length := by rw [List.length_take]; omega
              refine ⟨by rw [hlen, List.length_append, tl]; rfl, fun i b e => ?_, fun i c hc hd => ?_, fun i j b e1 e2 => ?_, R'.hd, fun b z m => ?_⟩
              · rcases keepL_at hn' e with ⟨q1, q2⟩ | ⟨rfl, q2⟩
                · obtain ⟨c, hc, kc⟩ := R'.at_ i b q2
                  refine ⟨c, by rw [List.getElem?_append_left (by omega), List.getElem?_take, if_pos q1]; exact hc, ?_⟩
                  have bel := List.all_eq_true.mp hb c (List.mem_of_getElem? (i := i) (by rw [List.getElem?_take, if_pos q1]; exact hc))
                  cases c with
                  | dead => exact kc.elim
                  | lst zs =>
                    simp only [belowC] at bel
                    split at bel
                    · rename_i ys' hys
                      obtain ⟨us, a1, a2⟩ := kc
                      have := subL_rep hav hlo zs ys' us a2 hys
                      rw [subL_lower zs ys' hys] at this
                      exact ⟨us, a1, this⟩
                    · cases bel
                  | ins c ns fs =>
                    simp only [belowC] at bel
                    split at bel
                    · rename_i ys' hys
                      obtain ⟨C, dx, gs, a1, a2, a3, a4⟩ := kc
                      have := subL_rep hav hlo fs ys' gs a4 hys
                      rw [subL_lower fs ys' hys] at this
                      exact ⟨C, dx, gs, a1, a2, a3, this⟩
                    · cases bel
                  | dct ks zs =>
                    simp only [belowC] at bel
                    split at bel
                    · rename_i ys' hys
                      obtain ⟨us, a1, a2, a3⟩ := kc
                      have := subL_rep hav hlo zs ys' us a3 hys
                      rw [subL_lower zs ys' hys] at this
                      exact ⟨us, a1, a2, this⟩
                    · cases bel
                · rw [ha] at q2; cases q2
                  refine ⟨.lst xs, by rw [List.getElem?_append_right (by omega)]; simp [tl], ws, ea, ?_⟩
                  have := subL_rep hav hlo xs ys ws la hy
                  rwa [subL_lower xs ys hy] at this
              · by_cases q : i < st.length
                · rw [List.getElem?_append_left (by omega), List.getElem?_take, if_pos q] at hc
                  obtain ⟨b, e⟩ := R'.has i c hc hd
                  refine ⟨b, ?_⟩
                  unfold Loc.keepL; dsimp only
                  rw [List.getElem?_append_left (by rw [List.length_take]; omega), List.getElem?_take, if_pos q]; exact e
                · have hz := lt_of_get hc
                  simp [tl] at hz
                  have : i = st.length := by omega
                  subst this
                  refine ⟨a, ?_⟩
                  unfold Loc.keepL; dsimp only
                  rw [List.getElem?_append_right (by rw [List.length_take]; omega)]
                  simp [ha]
                  have : min st.length r'.s.length = st.length := by omega
                  rw [this]; simp
              · rcases keepL_at hn' e1 with ⟨q1, q2⟩ | ⟨rfl, q2⟩
                · rcases keepL_at hn' e2 with ⟨p1, p2⟩ | ⟨rfl, p2⟩
                  · exact R'.inj i j b q2 p2
                  · have := R'.inj _ _ _ q2 p2; omega
                · rcases keepL_at hn' e2 with ⟨p1, p2⟩ | ⟨rfl, p2⟩
                  · have := R'.inj _ _ _ q2 p2; omega
                  · rfl
              · obtain ⟨i, e⟩ := live_at.mp z
                rcases keepL_at hn' e with ⟨_, q⟩ | ⟨_, q⟩
                · exact R'.dis b (live_at.mpr ⟨i, q⟩) m
                · exact R'.dis b (live_at.mpr ⟨l, q⟩) m
            refine post _ H' S SR (.ref a) ?_
            simp only [Rep]
            refine ⟨by rw [hlen]; omega, fun b e => ?_⟩
            rcases keepL_at hn' e with ⟨q1, _⟩ | ⟨_, q⟩
            · omega
            · rw [ha] at q; cases q; rfl
          · exact post.elim
        · exact post.elim
      · exact post.elim
    · exact post.elim
  · exact post.elim
theorem FnD.keep {P : Program} {w : World} {G : GC} {base : Heap} {k : Nat} {f : Addr} {fd : FuncData} {ps : List Str} {F : List PV → M PV} (h : FnD P w G base k f fd ps F) : FnD P w G base k f fd ps (keepF F) :=
  FnOk.imp h fun vs H Q E q => spF_keep q
theorem ev_keepF {F : List PV → M PV} {ps : List PV} {st s2 : Store} {l : Nat} {xs : List PV} (h : F ps st = .ok (.loc l) s2) (hl : st.length ≤ l) (hx : s2[l]? = some (.lst xs)) (hf : flatL xs = true) (hb : (s2.take st.length).all (belowC st.length) = true) : keepF F ps st = .ok (.loc st.length) (s2.take st.length ++ [.lst xs]) := by
  unfold keepF
  simp only [h]
  rw [if_pos hl, hx]
  simp only [subL_flat xs hf]
  rw [if_pos hb]
end CD

set_option Elab.async false
set_option linter.all false
set_option maxRecDepth 100000
set_option maxHeartbeats 2000000
namespace CD
open PySem PySem.Spec PyProof.Rows L2 RZ StX ClX
variable {X : Cx} {W : WX}
/-! ### sorted(set(xs)), xs a long list of ints with few members -/
theorem nodup_lenB {a b : List Int} (ha : a.Nodup) (hb : b.Nodup) (h : ∀ k, k ∈ a ↔ k ∈ b) : a.length = b.length :=
  ((List.perm_ext_iff_of_nodup ha hb).mpr h).length_eq
theorem asc_nodupB {a : List Int} (h : a.Pairwise (· < ·)) : a.Nodup := h.imp fun h => by omega
theorem setR_lenB {w : World} {h : Heap} {a : Addr} {ks : List Int} {c : Nat} (R : SetR w h a (fun j => decide (j ∈ ks)) c) : c = (sortU ks).length := by
  obtain ⟨o, es, ep, t, _, _, _, _, nd, hm, _, _, hn, _⟩ := R
  have := nodup_lenB nd (asc_nodupB (sortU_asc ks)) fun k => by
    rw [← hm k, sortU_mem]; exact decide_eq_true_iff
  rw [List.length_map, Array.length_toList] at this
  omega
def rSet1B (K : PySem.W.Frag) (w : World) : List V → Hp → VK → Prop := fun xs H Q => ∃ (l : Addr) (ks : List Int), xs = [V.ref l] ∧ SqL K H l (ks.map V.int) ∧ ks.length ≤ 4000 ∧
  ∀ (p : Addr) (c : Nat), H p = none → c = (sortU ks).length → Q (.ref p) (upd H p (SetO w p (fun j => decide (j ∈ ks)) c))
theorem cr_set1B (hc : X.calm = true) : CallR X (.type "set") (rSet1B X.K X.w) := by
  intro pins s σ H xs us Q I r h
  obtain ⟨l, ks, rfl, hs, hl, q⟩ := h
  obtain ⟨its, rv, pl, hz⟩ := I.list hs
  rw [Vals.ref1 r]
  refine setOfList ks (I.ok.hd hc) pl.isList (by simpa using rv.ints) (by unfold scanBound; omega) fun h' tk c R hle hk => ?_
  exact ⟨.ref _, upd H s.heap.objs.size (SetO X.w s.heap.objs.size (fun j => decide (j ∈ ks)) c), I.laid (t' := tk) (fun b u e => hk b u e) (Nat.le_refl _) (setO_new R), rfl, q _ c (I.hok.fresh (Nat.le_refl _)) (setR_lenB R)⟩
def sortSetBD (d : DE) : DE := fun env st => (d env st).bind fun p st => match sqlOf st p with
  | some xs => match intsOf xs with
    | some ns => if ns.length ≤ 4000 ∧ (sortU ns).length ≤ 60 then .ok (.lst ((sortU ns).map .int)) st else .stuck
    | none => .stuck
  | none => .stuck
theorem se_sortSetB {a : Expr} {ta : TE} {d : DE} {p pos p2 pos2 : Pos} (hc : X.calm = true) (hg : Gl X "sorted") (hm : X.mg "sorted" = none) (hg2 : Gl X "set") (hm2 : X.mg "set" = none) (ha : SE X W a ta d)
    (na : starEach [.Call (.Name "set" p2) [a] [] pos2] X.env = (false, eval (.Call (.Name "set" p2) [a] [] pos2) X.env) :: starEach [] X.env := by rfl) (na2 : starEach [a] X.env = (false, eval a X.env) :: starEach [] X.env := by rfl)
    (np : (backTo pos (starEach [] X.env)).any (·.1) = false := by rfl) (np2 : (backTo pos2 (starEach [] X.env)).any (·.1) = false := by rfl) :
    SE X W (.Call (.Name "sorted" p) [.Call (.Name "set" p2) [a] [] pos2] [] pos) (tCB (rSortedSet X.w) (tCons (tCB (rSet1B X.K X.w) (tCons ta tNil)) tNil)) (sortSetBD d) := by
  refine ⟨pe_callB (cr_sortedSet hc) hg hm PyProof.Rows.boot_sorted (pa_cons (pe_callTy (cr_set1B hc) hg2 hm2 PyProof.Rows.boot_set (pa_cons ha.pe pa_nil na2) (by decide) (by decide) na2 np2) pa_nil na) (by decide) (by decide) na np, fun r s H env st Q E R h => ?_⟩
  refine ha.so r s H env st _ E R (h.bind.imp fun p st1 r1 H1 t1 R1 h1 x hx => ?_)
  split at h1
  · rename_i xs hs
    split at h1
    · rename_i ns hn
      split at h1
      · rename_i hl
        obtain ⟨l, vs, rfl, f, rl⟩ := sqlOf_ok R1 hx hs
        have := intsOf_ok rl hn
        subst this
        refine ⟨l, ns, rfl, f, hl.1, fun p c nP hcl => ?_⟩
        refine ⟨p, _, c, rfl, upd_same, by have := hl.2; omega, fun ms p' hasc hmem hlen nP' => ?_⟩
        have e : ms = sortU ns := asc_only hasc (sortU_asc ns) fun k => by
          rw [hmem k, sortU_mem]; exact decide_eq_true_iff
        subst e
        have R2 := R1.new1 (o := SetO X.w p (fun j => decide (j ∈ ns)) c) nP
        exact h1 r1 _ ((Step.new1 nP).trans (Step.new1 nP')) (R2.new1 nP') _ (Rep.newLst R2 nP' (repL_ints _))
      · exact h1.elim
    · exact h1.elim
  · exact h1.elim
theorem ev_sortSetB {d : DE} {env : PEnv} {st : Store} {p : PV} {l : List Int} (h : d env st = .ok p st) (hs : sqlOf st p = some (l.map .int)) (hl : l.length ≤ 4000) (h2 : (sortU l).length ≤ 60) : sortSetBD d env st = .ok (.lst ((sortU l).map .int)) st := by
  unfold sortSetBD
  rw [h, Res.bind_ok]
  simp only [hs, intsOf_map, if_pos (And.intro hl h2)]
end CD

set_option Elab.async false
set_option linter.all false
set_option maxRecDepth 100000
set_option maxHeartbeats 2000000
namespace CD
open PySem PySem.Spec PyProof.Rows L2 RZ StX ClX
/-! ### any(xs), xs a tuple of ints -/
theorem iter_anyT {prog : Program} {w : World} {A : Around} {E : Value → Shared → Prop} {s : Shared} {l : Addr} {items : Array Value} {Q : Value → Shared → Prop} (hl : s.heap.IsTuple l items)
    (h : ∀ s₂ : Shared, s₂ = { s with heap := s.heap.push { cls := .type "tuple_iterator", data := .fields #[.ref l, .int 0 0] } } →
      (s₂.heap.IsTupleIter s.heap.objs.size l 0 ∧ s₂.heap.IsTuple l items) → l ≠ s.heap.objs.size → Q (.ref s.heap.objs.size) s₂) : wpAny (model prog w) A (pyIter (.ref l)) Q E s := by
  have hlt : l < s.heap.objs.size := by obtain ⟨_, e, _⟩ := hl; exact Heap.lt_size e
  exact wpAny_pyIter_tuple hl (h _ rfl ⟨⟨_, Heap.get?_push_size _ rfl, rfl, rfl⟩, hl.push _⟩ (Nat.ne_of_lt hlt))
theorem truth_ints {prog : Program} {w : World} {A : Around} {ns : List Int} {its : List Value} (e : IntsAre its ns) :
    TruthOf prog w A (fun i v => its.toArray[i]? = some v) (fun i => ns.getD i 0 != 0) := fun i v s Q E hv hq => by
  have hv' : its[i]? = some v := by simpa using hv
  obtain ⟨t, hb⟩ := IntsAre.int_at e i v hv'
  subst hb
  exact PySem.P.truthy_int hq
theorem anyI_range : ∀ ns : List Int, (List.range ns.length).any (fun i => ns.getD i 0 != 0) = ns.any (· != 0)
  | [] => rfl
  | b :: bs => by
    rw [List.length_cons, List.range_succ_eq_map, List.any_cons, List.any_map, List.any_cons, ← anyI_range bs]
    rfl
section
variable {X : Cx}
def rAnyI (K : PySem.W.Frag) : List V → Hp → VK → Prop := fun vs H Q => ∃ (a : Addr) (ns : List Int), vs = [V.ref a] ∧ SqT K H a (ns.map V.int) ∧ Q (.bl (ns.any (· != 0))) H
theorem cr_anyI (hc : X.calm = true) : CallR X (.builtin "any") (rAnyI X.K) := by
  intro pins s σ H vs us Q I r h
  obtain ⟨a, ns, rfl, hs, q⟩ := h
  obtain ⟨its, rv, hl, _⟩ := I.tuple hs
  rw [Vals.ref1 r]
  have hi : IntsAre its ns := by simpa using rv.ints
  refine call_any_walk (iter_anyT (show s.heap.IsTuple a its.toArray from hl) fun s₂ e2 st hne => ?_)
  subst e2
  refine ⟨_, _, _, _, _, _, _, rfl, Walks.tuple (A := X.A.in1) (I.ok.hd hc) _ a hne its.toArray, st, truth_ints hi, fun h' tk hk => ?_⟩
  refine ⟨.bl _, H, I.kept fun b o eo => hk b o (fun hmem => ?_) (Heap.get?_push_of_some _ eo), ?_, q⟩
  · rcases List.mem_cons.mp hmem with e1 | hmem
    · exact absurd (e1 ▸ Heap.lt_size eo) (Nat.lt_irrefl _)
    · cases hmem
  · show Value.bool _ = Value.bool _
    rw [← anyI_range, List.size_toArray, hi.length]
end
def anyIF : List PV → M PV
  | [p] => fun st => match tupOf p with
    | some xs => match intsOf xs with
      | some ns => .ok (.bl (ns.any (· != 0))) st
      | none => .stuck
    | none => .stuck
  | _ => nope
theorem scall_anyI {G : GC} : SCall G (rAnyI G.K) anyIF := by
  intro r H st ps xs E Q R hx h
  unfold anyIF at h
  split at h
  · obtain ⟨v, rfl, q⟩ := rep1 hx
    split at h
    · rename_i ys hs
      split at h
      · rename_i ns hn
        obtain ⟨a, vs, e, f, l⟩ := tupOf_ok q hs
        subst e
        have := intsOf_ok l hn
        subst this
        exact ⟨a, ns, rfl, f.sq, h r H Step.refl R _ rep_bl⟩
      · exact h.elim
    · exact h.elim
  · exact h.elim
theorem ev_anyI {ns : List Int} {st : Store} : anyIF [.tup (ns.map .int)] st = .ok (.bl (ns.any (· != 0))) st := by
  show (match tupOf (.tup (ns.map .int)) with | some xs => (match intsOf xs with | some ns => Res.ok (PV.bl (ns.any (· != 0))) st | none => .stuck) | none => .stuck) = _
  simp only [tupOf, intsOf_map]
end CD

set_option Elab.async false
set_option linter.all false
set_option maxRecDepth 100000
set_option maxHeartbeats 2000000
namespace CD
open PySem PySem.Spec PyProof.Rows L2 RZ StX ClX
/-! ### repr of a value of any kind, also of {} alone or within tuples -/
mutual
def atT : PV → Option PyData
  | .non => some .none
  | .bl b => some (.bool b)
  | .int i => some (.int i)
  | .str x => some (.str x)
  | .dct _ [] [] => some (.dict [])
  | .tup xs => (atTL xs).map .tuple
  | _ => none
def atTL : List PV → Option (List PyData)
  | [] => some []
  | x :: xs => match atT x, atTL xs with
    | some d, some ds => some (d :: ds)
    | _, _ => none
end
def dataT (st : Store) (p : PV) : Option PyData := match atT p with
  | some d => some d
  | none => match dataOf st p with
    | some d => if d.hasDict = false then some d else none
    | none => none
/-- how it reads, wherever it lies -/
def RdsT (K : PySem.W.Frag) (H : Hp) (x : V) (d : PyData) : Prop := ∀ (X : Cx) (pins : List (Addr × Obj)) (s : Shared) (σ : St) (u : Value), X.K = K → Inv X pins σ H s → RelV x u → ∃ as, Reads s.heap u d as ∧ (d.hasDict = true → sysModules ∉ as)
def OkShowT (d : PyData) : Prop := d.showable = true ∧ d.depth ≤ 60 ∧ d.shown.length ≤ sizeLine ∧ ∀ i, d = .int i → i.natAbs.log2 < 1920
noncomputable instance (d : PyData) : Decidable (OkShowT d) := Classical.propDecidable _
def rReprT (K : PySem.W.Frag) : List V → Hp → VK → Prop := fun xs H Q => ∃ x d, xs = [x] ∧ RdsT K H x d ∧ OkShowT d ∧ Q (.str d.shown) H
section
variable {X : Cx}
theorem call_reprT (hg : X.A.guards = some []) (hu : X.A.units + 64 < cLine) : CallR X (.builtin "repr") (rReprT X.K) := by
  intro pins s σ H xs us Q I r h
  obtain ⟨x, d, rfl, hd, ⟨h2, h4, h5, h6⟩, q⟩ := h
  cases r with
  | cons a b =>
    cases b
    rename_i u
    obtain ⟨as, r1, hs⟩ := hd X pins s σ u rfl I a
    have go : ∀ ad, u = .ref ad → wpAny (model X.prog X.w) X.A (call (.builtin "repr") [u]) (EP X pins σ Q) X.xe s := fun ad e => by
      subst e
      exact repr_of_reads' r1 h2 hs hg (by omega) (fun _ _ e => e) (fun h' u' tk hk => ⟨.str _, H, I.kept hk, ⟨_, rfl⟩, q⟩) h5
    cases r1 with
    | none => exact P.repr_of_none ⟨.str _, H, I.kept (fun _ _ e => e), ⟨_, rfl⟩, q⟩
    | bool b => exact P.repr_of_bool ⟨.str _, H, I.kept (fun _ _ e => e), ⟨_, rfl⟩, q⟩
    | int i t => exact P.repr_of_int (h6 i rfl) ⟨.str _, H, I.kept (fun _ _ e => e), ⟨_, rfl⟩, q⟩
    | str y t => exact P.repr_of_str ⟨.str _, H, I.kept (fun _ _ e => e), ⟨_, rfl⟩, q⟩ h5
    | list _ _ _ _ => exact go _ rfl
    | tuple _ _ _ _ => exact go _ rfl
    | dict _ _ _ _ _ => exact go _ rfl
end
noncomputable def reprTF : List PV → M PV
  | [p] => fun st => match dataT st p with
    | some d => iteM (OkShowT d) (okM (.str d.shown)) st
    | none => .stuck
  | _ => nope
section
variable {G : GC} {r : Loc} {H : Hp}
theorem empty_reads {X : Cx} {pins : List (Addr × Obj)} {s : Shared} {σ : St} {a : Addr} (I : Inv X pins σ H s) (e : Rd H a (.dK [])) : Reads s.heap (.ref a) (.dict []) [a] ∧ sysModules ∉ [a] := by
  obtain ⟨_, hs, vs, kv, o, es, ep, h1, h2, h3, h4, h5, h6⟩ := dk_rd I.hok e
  cases kv
  have hes : es.toList = [] := by
    cases q : es.toList with
    | nil => rfl
    | cons x l =>
      rw [q] at h5
      exact absurd h5 (by intro z; cases z)
  refine ⟨?_, by simpa using fun z => by rw [z] at hs; simp at hs⟩
  have := Reads.dict (h := s.heap) (a := a) (kvs := []) (as := []) (bs := []) h1 h2.1 h3 (by rw [hes]; exact .nil) (by rw [hes]; exact .nil)
  simpa using this
end
mutual
theorem at_reads {G : GC} {r : Loc} {H : Hp} {X : Cx} {pins : List (Addr × Obj)} {s : Shared} {σ : St} (hX : X.K = G.K) (I : Inv X pins σ H s) : ∀ (p : PV) (v : V) (d : PyData) (u : Value), Rep G r H p v → atT p = some d → RelV v u → ∃ as, Reads s.heap u d as ∧ sysModules ∉ as
  | .non, v, d, u, k, e, q => by
    simp only [Rep] at k; subst k
    simp only [atT] at e; cases e
    cases q; exact ⟨_, Reads.none, by simp⟩
  | .bl b, v, d, u, k, e, q => by
    simp only [Rep] at k; subst k
    simp only [atT] at e; cases e
    cases q; exact ⟨_, Reads.bool b, by simp⟩
  | .int i, v, d, u, k, e, q => by
    simp only [Rep] at k; subst k
    simp only [atT] at e; cases e
    obtain ⟨t, rfl⟩ := q; exact ⟨_, Reads.int i t, by simp⟩
  | .str x, v, d, u, k, e, q => by
    simp only [Rep] at k; subst k
    simp only [atT] at e; cases e
    obtain ⟨t, rfl⟩ := q; exact ⟨_, Reads.str x t, by simp⟩
  | .dct lk [] [], v, d, u, k, e, q => by
    simp only [atT] at e; cases e
    simp only [Rep] at k
    obtain ⟨a, vs, rfl, f, z, _, l⟩ := k
    cases q
    exact ⟨_, empty_reads I (by simpa using f.rd)⟩
  | .tup xs, v, d, u, k, e, q => by
    simp only [atT] at e
    obtain ⟨ds, ed, rfl⟩ := map_some e
    simp only [Rep] at k
    obtain ⟨a, vs, rfl, f, l⟩ := k
    cases q
    obtain ⟨its, rv, ⟨o, h1, h2, n, h3⟩, _⟩ := I.tuple (by rw [hX]; exact f.sq)
    obtain ⟨as, ra, hs⟩ := atL_reads hX I xs vs ds its l ed rv
    exact ⟨as, Reads.tuple h1 h2 h3 (by simpa using ra), hs⟩
  | .ty _, _, _, _, _, e, _ => by simp [atT] at e
  | .gl _, _, _, _, _, e, _ => by simp [atT] at e
  | .lst _, _, _, _, _, e, _ => by simp [atT] at e
  | .rls _, _, _, _, _, e, _ => by simp [atT] at e
  | .obj _ _ _, _, _, _, _, e, _ => by simp [atT] at e
  | .loc _, _, _, _, _, e, _ => by simp [atT] at e
  | .dct _ (_ :: _) _, _, _, _, _, e, _ => by simp [atT] at e
  | .dct _ [] (_ :: _), _, _, _, _, e, _ => by simp [atT] at e
theorem atL_reads {G : GC} {r : Loc} {H : Hp} {X : Cx} {pins : List (Addr × Obj)} {s : Shared} {σ : St} (hX : X.K = G.K) (I : Inv X pins σ H s) : ∀ (ps : List PV) (vs : List V) (ds : List PyData) (us : List Value), RepL G r H ps vs → atTL ps = some ds → Vals vs us → ∃ as, ReadsAll s.heap us ds as ∧ sysModules ∉ as
  | [], vs, ds, us, k, e, q => by
    simp only [RepL] at k; subst k
    simp only [atTL] at e; cases e
    cases q; exact ⟨_, ReadsAll.nil, by simp⟩
  | p :: ps, vs, ds, us, k, e, q => by
    simp only [RepL] at k
    obtain ⟨v, ws, rfl, k1, k2⟩ := k
    simp only [atTL] at e
    split at e
    · rename_i d ds' e1 e2
      cases e
      cases q with
      | cons q1 q2 =>
        obtain ⟨as, r1, s1⟩ := at_reads hX I p v d _ k1 e1 q1
        obtain ⟨bs, r2, s2⟩ := atL_reads hX I ps ws ds' _ k2 e2 q2
        exact ⟨as ++ bs, ReadsAll.cons r1 r2, by simp [s1, s2]⟩
    · cases e
end
theorem dataT_ok {G : GC} {r : Loc} {H : Hp} {st : Store} {p : PV} {v : V} {d : PyData} (R : SRel G r H st) (k : Rep G r H p v) (e : dataT st p = some d) : RdsT G.K H v d := by
  unfold dataT at e
  split at e
  · rename_i d' h
    cases e
    intro X pins s σ u hX I q
    obtain ⟨as, h1, h2⟩ := at_reads hX I p v _ u k h q
    exact ⟨as, h1, fun _ => h2⟩
  · split at e
    · rename_i d' h
      split at e
      · rename_i hd
        cases e
        intro X pins s σ u hX I q
        obtain ⟨as, h1⟩ := Dp.reads I _ v u (by rw [hX]; exact dataOf_ok R k h) q
        exact ⟨as, h1, fun z => by rw [hd] at z; cases z⟩
      · cases e
    · cases e
theorem scall_reprT {G : GC} : SCall G (rReprT G.K) reprTF := by
  intro r H st ps xs E Q R hx h
  unfold reprTF at h
  split at h
  · obtain ⟨v, rfl, k⟩ := rep1 hx
    split at h
    · rename_i d hd
      obtain ⟨hc, h⟩ := Post.iteM h
      exact ⟨v, d, rfl, dataT_ok R k hd, hc, h r H Step.refl R _ rep_str⟩
    · exact h.elim
  · exact h.elim
theorem ev_reprT {p : PV} {d : PyData} {st : Store} (h : dataT st p = some d) (hs : OkShowT d) : reprTF [p] st = .ok (.str d.shown) st := by
  show (match dataT st p with | some d => iteM (OkShowT d) (okM (.str d.shown)) st | none => .stuck) = _
  rw [h]
  simp only
  unfold iteM
  rw [if_pos hs]; rfl
end CD

set_option Elab.async false
set_option linter.all false
set_option maxRecDepth 100000
set_option maxHeartbeats 4000000
namespace CD
open PySem PySem.Spec PyProof.Rows L2 RZ StX ClX
open AutoSeq1 (wpAny_loadPart')
open MeetsSeq MeetsSeq2 MeetsSeq3 SeqRoads2
open PySem.SeqAt
/-! ### == with something of another kind: its own == gives up -/
theorem dec_int (b : Int) (u : Tok) (x C dx : Addr) :
    Meets (Builtin.«int.__eq__» ⟨[.int b u, .ref x], []⟩) (fun _ R s => s.heap.get? x = some (PySem.W.instObj C dx) ∧ R (.ok (.ret .notImplemented)) s) :=
  .of_wp fun prog w A R s h => by obtain ⟨hp, g, d, tk, os⟩ := s; obtain ⟨hl, h⟩ := h; unfold PySem.W.instObj at hl; wp_walk using wpAny_loadPart' hl, wpAny_load hl; exact ⟨_, rfl, h⟩
theorem dec_bool (b : Bool) (x C dx : Addr) :
    Meets (Builtin.«int.__eq__» ⟨[.bool b, .ref x], []⟩) (fun _ R s => s.heap.get? x = some (PySem.W.instObj C dx) ∧ R (.ok (.ret .notImplemented)) s) :=
  .of_wp fun prog w A R s h => by obtain ⟨hp, g, d, tk, os⟩ := s; obtain ⟨hl, h⟩ := h; unfold PySem.W.instObj at hl; wp_walk using wpAny_loadPart' hl, wpAny_load hl; exact ⟨_, rfl, h⟩
theorem dec_str (b : Str) (u : Tok) (x C dx : Addr) :
    Meets (Builtin.«str.__eq__» ⟨[.str b u, .ref x], []⟩) (fun _ R s => s.heap.get? x = some (PySem.W.instObj C dx) ∧ R (.ok (.ret .notImplemented)) s) :=
  .of_wp fun prog w A R s h => by obtain ⟨hp, g, d, tk, os⟩ := s; obtain ⟨hl, h⟩ := h; unfold PySem.W.instObj at hl; wp_walk using wpAny_loadPart' hl, wpAny_load hl; exact ⟨_, rfl, h⟩
section
variable {prog : Program} {w : World} {A : Around} {E : Value → Shared → Prop} {s : Shared} {K : PySem.W.Frag}
theorem isi_no {x C : Addr} {ox : Obj} {od : Option Obj} {T : String} {Q : Bool → Shared → Prop} (X : K.In s.heap) (I : PySem.W.InstAt s.heap x ox C od) (hs : PySem.W.subIn K (.ref C) (.type T) = some false) (h : Q false s) : wpAny (model prog w) A (isInstance (.ref x) (.type T)) Q E s := by
  simp only [isInstance]
  exact wpAny_bind (I.type.here ((PySem.W.looks_subIn X hs).here h))
theorem dec_list {l x C : Addr} {ox : Obj} {od : Option Obj} {Q : Fin → Shared → Prop} (X : K.In s.heap) (I : PySem.W.InstAt s.heap x ox C od) (hs : PySem.W.subIn K (.ref C) (.type "list") = some false) (h : Q (.done (.ret .notImplemented)) s) : wpAny (model prog w) A (Builtin.«list.__eq__» ⟨[.ref l, .ref x], []⟩) Q E s := by
  obtain ⟨hp, g, d, tk, os⟩ := s
  wp_walk using isi_no X I hs
  exact h
theorem dec_tuple {l x C : Addr} {ox : Obj} {od : Option Obj} {Q : Fin → Shared → Prop} (X : K.In s.heap) (I : PySem.W.InstAt s.heap x ox C od) (hs : PySem.W.subIn K (.ref C) (.type "tuple") = some false) (h : Q (.done (.ret .notImplemented)) s) : wpAny (model prog w) A (Builtin.«tuple.__eq__» ⟨[.ref l, .ref x], []⟩) Q E s := by
  obtain ⟨hp, g, d, tk, os⟩ := s
  wp_walk using isi_no X I hs
  exact h
theorem dec_dict {l x C : Addr} {ox : Obj} {od : Option Obj} {Q : Fin → Shared → Prop} (X : K.In s.heap) (I : PySem.W.InstAt s.heap x ox C od) (hs : PySem.W.subIn K (.ref C) (.type "dict") = some false) (h : Q (.done (.ret .notImplemented)) s) : wpAny (model prog w) A (Builtin.«dict.__eq__» ⟨[.ref l, .ref x], []⟩) Q E s := by
  obtain ⟨hp, g, d, tk, os⟩ := s
  wp_walk using isi_no X I hs
  exact h
end
section
variable {prog : Program} {w : World} {A : Around} {E : Value → Shared → Prop} {s : Shared} {K : PySem.W.Frag} {x C L f : Addr} {h₀ : Heap} {m : Str → Option Value} {ox : Obj} {od : Option Obj} {a : Value} {T id : String}
theorem type_ne_ref : (Value.type T != Value.ref C) = true := by simp
theorem ref_ne_type : (Value.ref C != Value.type T) = true := by simp
theorem own_try {name : Str} {Q : Value → Shared → Prop} (X : K.In s.heap) (I : PySem.W.InstAt s.heap x ox C od) (hs : PySem.W.findIn K (.ref C) name = some (some (.ref f))) (hf : PySem.W.isFn K (.ref f) = true)
    (h : wpAny (model prog w) A (call (.ref f) [.ref x, a]) (fun v s' => ∃ t, v = .bool t ∧ Q (.bool t) s') E s) : wpAny (model prog w) A (tryCompare (.ref x) name a) (fun r s' => ∃ t, r = some (.bool t) ∧ Q (.bool t) s') E s := by
  unfold tryCompare
  refine wpAny_bind (PySem.W.ifBound_K X I hs hf (wpAny_mono h (fun v s' hv => ?_) fun _ _ e => e))
  obtain ⟨t, rfl, hq⟩ := hv
  exact wpAny_pure ⟨t, rfl, hq⟩
/-- what stands on the left gives up; the class's own == is asked -/
theorem rc_left {Q : Value → Shared → Prop} (hu : A.units < cLine) (F : Fr h₀ L s.heap m) (X₀ : K.In h₀) (I : PySem.W.InstAt s.heap x ox C od) (ha : s.TypeIs a T) (hsub : PySem.W.subIn K (.ref C) (.type T) = some false)
    (h1 : Slot T (cmpInfo .Eq).2.1 id) (hc1 : ∀ Q' : Value → Shared → Prop, Q' .notImplemented s → wpAny (model prog w) A (call (.builtin id) [a, .ref x]) Q' E s)
    (hs : PySem.W.findIn K (.ref C) (cmpInfo .Eq).2.2 = some (some (.ref f))) (hf : PySem.W.isFn K (.ref f) = true)
    (h : wpAny (model prog w) A (call (.ref f) [.ref x, a]) (fun v s' => ∃ t, v = .bool t ∧ Q (.bool t) s') E s) : wpAny (model prog w) A (richCompare .Eq a (.ref x)) Q E s := by
  have X := X₀.keeps F.keep
  rcases hi : cmpInfo CmpOp.Eq with ⟨sym, f1, r1⟩
  rw [hi] at h1 hs
  simp only [richCompare, hi, ha.oneThing_none]
  refine wpAny_holding ?_
  refine wpAny_bind (wpAny_cRoomFor hu ?_)
  refine wpAny_bind (wpAny_typeOf ha (wpAny_bind (I.type.here ?_)))
  simp only [type_ne_ref, if_true]
  refine wpAny_bind ((PySem.W.looks_subIn X hsub).here ?_)
  simp only [Bool.false_eq_true, if_false, Bool.not_false, if_true]
  refine wpAny_bind (m := tryCompare a _ (.ref x)) (wpAny_tryCompare_declines ha h1 (hc1 _ ⟨rfl, ?_⟩))
  refine wpAny_bind (m := tryCompare (.ref x) _ a) (wpAny_mono (own_try X I hs hf h) (fun r s' z => ?_) fun _ _ e => e)
  obtain ⟨t, rfl, hq⟩ := z
  first
    | exact wpAny_pure hq
    | exact wpAny_bind (wpAny_rule (wpAny_pure hq))
theorem rc_right {Q : Value → Shared → Prop} (hu : A.units < cLine) (F : Fr h₀ L s.heap m) (X₀ : K.In h₀) (I : PySem.W.InstAt s.heap x ox C od) (ha : s.TypeIs a T) (hsub : PySem.W.subIn K (.type T) (.ref C) = some false)
    (hs : PySem.W.findIn K (.ref C) (cmpInfo .Eq).2.1 = some (some (.ref f))) (hf : PySem.W.isFn K (.ref f) = true)
    (h : wpAny (model prog w) A (call (.ref f) [.ref x, a]) (fun v s' => ∃ t, v = .bool t ∧ Q (.bool t) s') E s) : wpAny (model prog w) A (richCompare .Eq (.ref x) a) Q E s := by
  have X := X₀.keeps F.keep
  rcases hi : cmpInfo CmpOp.Eq with ⟨sym, f1, r1⟩
  rw [hi] at hs
  simp only [richCompare, hi, oneThing_ref]
  refine wpAny_holding ?_
  refine wpAny_bind (wpAny_cRoomFor hu ?_)
  refine wpAny_bind (I.type.here (wpAny_bind (wpAny_typeOf ha ?_)))
  simp only [ref_ne_type, if_true]
  refine wpAny_bind ((PySem.W.looks_subIn X hsub).here ?_)
  simp only [Bool.false_eq_true, if_false, Bool.not_false, if_true]
  refine wpAny_bind (m := tryCompare (.ref x) _ a) (wpAny_mono (own_try X I hs hf h) (fun r s' z => ?_) fun _ _ e => e)
  obtain ⟨t, rfl, hq⟩ := z
  first
    | exact wpAny_pure hq
    | exact wpAny_bind (wpAny_rule (wpAny_pure hq))
theorem rc_rightNe {Q : Value → Shared → Prop} (hu : A.units < cLine) (hu1 : A.in1.units < cLine) (F : Fr h₀ L s.heap m) (X₀ : K.In h₀) (I : PySem.W.InstAt s.heap x ox C od) (ha : s.TypeIs a T) (hsub : PySem.W.subIn K (.type T) (.ref C) = some false)
    (hn : PySem.W.findIn K (.ref C) "__ne__" = some (some (.builtin "object.__ne__"))) (hm : PySem.W.subIn K (.ref C) (.type "object") = some true) (hs : PySem.W.findIn K (.ref C) "__eq__" = some (some (.ref f))) (hf : PySem.W.isFn K (.ref f) = true)
    (h : wpAny (model prog w) A.in1 (call (.ref f) [.ref x, a]) (fun v s' => ∃ t, v = .bool t ∧ Q (.bool (!t)) s') E s) : wpAny (model prog w) A (richCompare .NotEq (.ref x) a) Q E s := by
  have X := X₀.keeps F.keep
  have one : wpAny (model prog w) A (tryCompare (.ref x) "__ne__" a) (fun r s' => ∃ t, r = some (.bool t) ∧ Q (.bool t) s') E s := by
    unfold tryCompare
    refine wpAny_bind (ifBound_ne X I hn (wpAny_call (codeAny_call_builtin PySem.F.cmp_object.ne.plain PySem.F.cmpEntry_ne (PySem.W.check_slot PySem.F.cmpKind_ne PySem.F.cmpSplit_ne (I.type.andThen (PySem.W.looks_subIn X hm)) (PySem.F.cmpArgs_ne _ _) (objNe_own X I hu1 hs hf (wpAny_mono h (fun v s' hv => ?_) fun _ _ e => e))))))
    obtain ⟨t, rfl, hq⟩ := hv
    exact ⟨t, rfl, wpAny_pure ⟨!t, rfl, hq⟩⟩
  unfold richCompare
  simp only [oneThing_ref]
  refine wpAny_holding (wpAny_bind (wpAny_cRoomFor hu ?_))
  refine wpAny_bind (I.type.here (wpAny_bind (wpAny_typeOf ha ?_)))
  simp only [ref_ne_type, if_true]
  refine wpAny_bind ((PySem.W.looks_subIn X hsub).here ?_)
  simp only [Bool.false_eq_true, if_false]
  refine wpAny_bind (wpAny_mono one (fun r s' z => ?_) fun _ _ e => e)
  obtain ⟨t, rfl, hq⟩ := z
  exact wpAny_pure hq
end
theorem kit_sub1 {K : PySem.W.Frag} {a : String} {C : Addr} (h : PySem.W.kitOne K (.type a) (.ref C) = some false) : PySem.W.subIn K (.type a) (.ref C) = some false := by
  unfold PySem.W.kitOne at h
  split at h
  · cases h
  · unfold PySem.W.kitCls at h
    dsimp only at h
    split at h
    · exact h
    · cases h
theorem kit_sub2 {K : PySem.W.Frag} {a : String} {C : Addr} (h : PySem.W.kitOne K (.ref C) (.type a) = some false) : PySem.W.subIn K (.ref C) (.type a) = some false := by
  unfold PySem.W.kitOne at h
  split at h
  · cases h
  · unfold PySem.W.kitCls at h
    dsimp only at h
    split at h
    · exact h
    · cases h
/-- a built-in value of a kind -/
def BtV (K : PySem.W.Frag) (H : Hp) : BT → V → Prop
  | .non, x => x = .non
  | .bl, x => ∃ b, x = .bl b
  | .int, x => ∃ i, x = .int i
  | .str, x => ∃ t, x = .str t
  | .tup, x => ∃ a xs, x = .ref a ∧ SqT K H a xs
  | .lst, x => ∃ a xs, x = .ref a ∧ SqL K H a xs
  | .dct, x => ∃ a kvs, x = .ref a ∧ Rd H a (.dK kvs)
def btP : PV → Option BT
  | .non => some .non
  | .bl _ => some .bl
  | .int _ => some .int
  | .str _ => some .str
  | .tup _ => some .tup
  | .lst _ => some .lst
  | .dct _ _ _ => some .dct
  | _ => none
theorem btP_ok {G : GC} {r : Loc} {H : Hp} {p : PV} {v : V} {t : BT} (k : Rep G r H p v) (h : btP p = some t) : BtV G.K H t v := by
  cases p with
  | non => cases h; simp only [Rep] at k; exact k
  | bl b => cases h; simp only [Rep] at k; exact ⟨b, k⟩
  | int i => cases h; simp only [Rep] at k; exact ⟨i, k⟩
  | str x => cases h; simp only [Rep] at k; exact ⟨x, k⟩
  | tup xs => cases h; simp only [Rep] at k; obtain ⟨a, vs, e, f, l⟩ := k; exact ⟨a, vs, e, f.sq⟩
  | lst xs => cases h; simp only [Rep] at k; obtain ⟨a, vs, e, f, n, l⟩ := k; exact ⟨a, vs, e, .inl (.inl f)⟩
  | dct lk ks xs => cases h; simp only [Rep] at k; obtain ⟨a, vs, e, f, _⟩ := k; exact ⟨a, _, e, f.rd⟩
  | _ => cases h
section
variable {X : Cx} {pins : List (Addr × Obj)} {s : Shared} {σ : St} {H : Hp}
theorem bt_type (I : Inv X pins σ H s) {t : BT} {x : V} {u : Value} (h : BtV X.K H t x) (r : RelV x u) : s.TypeIs u t.nm := by
  cases t with
  | non => cases h; cases r; rfl
  | bl => obtain ⟨b, rfl⟩ := h; cases r; rfl
  | int => obtain ⟨i, rfl⟩ := h; obtain ⟨tk, rfl⟩ := r; rfl
  | str => obtain ⟨i, rfl⟩ := h; obtain ⟨tk, rfl⟩ := r; rfl
  | tup => obtain ⟨a, xs, rfl, f⟩ := h; cases r; obtain ⟨its, _, ⟨o, h1, h2, _⟩, _⟩ := I.tuple f; exact ⟨o, h1, h2⟩
  | lst => obtain ⟨a, xs, rfl, f⟩ := h; cases r; obtain ⟨its, _, pl, _⟩ := I.list f; obtain ⟨o, h1, h2, _⟩ := pl.isList; exact ⟨o, h1, h2⟩
  | dct => obtain ⟨a, kvs, rfl, f⟩ := h; cases r; obtain ⟨_, _, vs, _, o, es, ep, h1, h2, _⟩ := dk_rd I.hok f; exact ⟨o, h1, h2.1⟩
/-- how its own == gives up -/
theorem bt_left {Q : Value → Shared → Prop} {E : Value → Shared → Prop} {A : Around} {x C dx : Addr} {od : Option Obj} {f L : Addr} {h₀ : Heap} {m : Str → Option Value} (I : Inv X pins σ H s) {t : BT} {y : V} {u : Value} (h : BtV X.K H t y) (r : RelV y u)
    (hu : A.units < cLine) (F : Fr h₀ L s.heap m) (X₀ : X.K.In h₀) (J : PySem.W.InstAt s.heap x (PySem.W.instObj C dx) C od) (hsub : PySem.W.subIn X.K (.ref C) (.type t.nm) = some false)
    (hs : PySem.W.findIn X.K (.ref C) "__eq__" = some (some (.ref f))) (hf : PySem.W.isFn X.K (.ref f) = true)
    (hc : wpAny (model X.prog X.w) A (call (.ref f) [.ref x, u]) (fun v s' => ∃ t, v = .bool t ∧ Q (.bool t) s') E s) : wpAny (model X.prog X.w) A (richCompare .Eq u (.ref x)) Q E s := by
  have ty := bt_type I h r
  have XK := X₀.keeps F.keep
  have ho := J.at_
  cases t with
  | non =>
    cases h; cases r
    exact rc_left hu F X₀ J ty hsub PySem.F.slot_NoneType_eq (fun _ hq => call_gives PySem.F.slot_NoneType_eq rfl PySem.F.entry_NoneType_eq (PySem.F.args_NoneType_eq_2 _ _) (NoneType___eq___none_ref_0 x) hq) hs hf hc
  | bl =>
    obtain ⟨b, rfl⟩ := h; cases r
    exact rc_left hu F X₀ J ty hsub PySem.F.slot_bool_eq (fun _ hq => call_meets PySem.F.slot_bool_eq rfl PySem.F.entry_int_eq (PySem.F.args_int_eq_2 _ _) (dec_bool b x C dx) ⟨ho, hq⟩) hs hf hc
  | int =>
    obtain ⟨i, rfl⟩ := h; obtain ⟨tk, rfl⟩ := r
    exact rc_left hu F X₀ J ty hsub PySem.F.slot_int_eq (fun _ hq => call_meets PySem.F.slot_int_eq rfl PySem.F.entry_int_eq (PySem.F.args_int_eq_2 _ _) (dec_int i tk x C dx) ⟨ho, hq⟩) hs hf hc
  | str =>
    obtain ⟨i, rfl⟩ := h; obtain ⟨tk, rfl⟩ := r
    exact rc_left hu F X₀ J ty hsub PySem.F.slot_str_eq (fun _ hq => call_meets PySem.F.slot_str_eq rfl PySem.F.entry_str_eq (PySem.F.args_str_eq_2 _ _) (dec_str i tk x C dx) ⟨ho, hq⟩) hs hf hc
  | tup =>
    obtain ⟨a, xs, rfl, f'⟩ := h; cases r
    exact rc_left hu F X₀ J ty hsub PySem.F.slot_tuple_eq (fun _ hq => wpAny_call_entry PySem.F.slot_tuple_eq ty PySem.F.entry_tuple_eq (dec_tuple XK J hsub ⟨_, rfl, hq⟩) (PySem.F.args_tuple_eq_2 _ _)) hs hf hc
  | lst =>
    obtain ⟨a, xs, rfl, f'⟩ := h; cases r
    exact rc_left hu F X₀ J ty hsub PySem.F.slot_list_eq (fun _ hq => wpAny_call_entry PySem.F.slot_list_eq ty PySem.F.entry_list_eq (dec_list XK J hsub ⟨_, rfl, hq⟩) (PySem.F.args_list_eq_2 _ _)) hs hf hc
  | dct =>
    obtain ⟨a, kvs, rfl, f'⟩ := h; cases r
    exact rc_left hu F X₀ J ty hsub PySem.F.slot_dict_eq (fun _ hq => wpAny_call_entry PySem.F.slot_dict_eq ty PySem.F.entry_dict_eq (dec_dict XK J hsub ⟨_, rfl, hq⟩) (PySem.F.args_dict_eq_2 _ _)) hs hf hc
end
def rEqR (G : GC) (c : Str) (n : Nat) (F : List PV → M PV) (neg : Bool) : R2 := fun x y H Q => (∃ t, BtV G.K H t y) ∧ rOwn1 G c n F x [y] H fun v H' => ∃ b : Bool, v = .bl b ∧ Q (.bl (b != neg)) H'
def rEqL (G : GC) (c : Str) (n : Nat) (F : List PV → M PV) (neg : Bool) : R2 := fun x y H Q => (∃ t, BtV G.K H t x) ∧ rOwn1 G c n F y [x] H fun v H' => ∃ b : Bool, v = .bl b ∧ Q (.bl (b != neg)) H'
section
variable {X : Cx} {W : WX}
theorem op_eqR {k n : Nat} {g : Addr} {F : List PV → M PV} {c : Str} (S : SpecF (gc X) c "__eq__" g) (T : IsiF (gc X) c) (hF : FnP X.prog X.w (gc X) X.base k g n F) (hr : Room k X.A) : OpR X (compareOp .Eq) (rEqR (gc X) c n F false) := by
  intro pins s σ H x y v u Q I rx ry h
  obtain ⟨⟨t, bt⟩, a, C', dx, fs, rfl, m, ea, q⟩ := h
  obtain rfl : v = Value.ref a := rx
  obtain ⟨mA, O, _, _, _, _⟩ := ins_get I.hok ea
  obtain ⟨od, J, _⟩ := O.look
  obtain ⟨m', hFr⟩ := I.fr
  show wpAny _ _ (richCompare .Eq _ _) _ _ _
  refine rc_right hr.units0 hFr I.ok.mod.kin J (bt_type I bt ry) (kit_sub1 (T.bo C' t m)) (S.at_ _ m) S.fn ?_
  refine thn (run_pos (X := X.nox) (W := WF) (sg := σ) hF hr (fun u s' z => by
    obtain ⟨_, _, _, _, _, _, _, _, _, _, _, _, _, _, _, _, w⟩ := z
    exact w.elim) (I.wish _) (.cons (show RelV (V.ref a) (Value.ref a) from rfl) (.cons ry .nil)) q |> fun z => wpAny_mono z (fun _ _ y => y) fun _ _ y => y.elim) fun u s' ⟨w, H', I', rw', b, hb, q'⟩ => ?_
  subst hb
  obtain rfl : u = Value.bool b := rw'
  exact ⟨b, rfl, .bl b, H', I'.unwish, rfl, by simpa using q'⟩
theorem op_neR {k n : Nat} {g : Addr} {F : List PV → M PV} {c : Str} (S : SpecF (gc X) c "__eq__" g) (N : NeF (gc X) c) (T : IsiF (gc X) c) (hF : FnP X.prog X.w (gc X) X.base k g n F) (hr : Room (k + 1) X.A) : OpR X (compareOp .NotEq) (rEqR (gc X) c n F true) := by
  intro pins s σ H x y v u Q I rx ry h
  obtain ⟨⟨t, bt⟩, a, C', dx, fs, rfl, m, ea, q⟩ := h
  obtain rfl : v = Value.ref a := rx
  obtain ⟨mA, O, _, _, _, _⟩ := ins_get I.hok ea
  obtain ⟨od, J, _⟩ := O.look
  obtain ⟨m', hFr⟩ := I.fr
  show wpAny _ _ (richCompare .NotEq _ _) _ _ _
  refine rc_rightNe hr.units0 hr.in1.units0 hFr I.ok.mod.kin J (bt_type I bt ry) (kit_sub1 (T.bo C' t m)) (N.ne _ m) (N.sub _ m) (S.at_ _ m) S.fn ?_
  refine wpAny_mono (run_pos1 (sg := σ) hF hr I (.cons (show RelV (V.ref a) (Value.ref a) from rfl) (.cons ry .nil)) q) (fun u s' z => ?_) fun _ _ e => e
  obtain ⟨w, H', I', rw', b, hb, q'⟩ := z
  subst hb
  obtain rfl : u = Value.bool b := rw'
  exact ⟨b, rfl, .bl (!b), H', I', rfl, by simpa using q'⟩
theorem op_eqL {k n : Nat} {g : Addr} {F : List PV → M PV} {c : Str} (S : SpecF (gc X) c "__eq__" g) (T : IsiF (gc X) c) (hF : FnP X.prog X.w (gc X) X.base k g n F) (hr : Room k X.A) : OpR X (compareOp .Eq) (rEqL (gc X) c n F false) := by
  intro pins s σ H x y v u Q I rx ry h
  obtain ⟨⟨t, bt⟩, a, C', dx, fs, rfl, m, ea, q⟩ := h
  obtain rfl : u = Value.ref a := ry
  obtain ⟨mA, O, _, _, _, _⟩ := ins_get I.hok ea
  obtain ⟨od, J, _⟩ := O.look
  obtain ⟨m', hFr⟩ := I.fr
  show wpAny _ _ (richCompare .Eq _ _) _ _ _
  refine bt_left I bt rx hr.units0 hFr I.ok.mod.kin J (kit_sub2 (T.ob C' t m)) (S.at_ _ m) S.fn ?_
  refine thn (run_pos (X := X.nox) (W := WF) (sg := σ) hF hr (fun u s' z => by
    obtain ⟨_, _, _, _, _, _, _, _, _, _, _, _, _, _, _, _, w⟩ := z
    exact w.elim) (I.wish _) (.cons (show RelV (V.ref a) (Value.ref a) from rfl) (.cons rx .nil)) q |> fun z => wpAny_mono z (fun _ _ y => y) fun _ _ y => y.elim) fun u s' ⟨w, H', I', rw', b, hb, q'⟩ => ?_
  subst hb
  obtain rfl : u = Value.bool b := rw'
  exact ⟨b, rfl, .bl b, H', I'.unwish, rfl, by simpa using q'⟩
end
def eqRF (n : Nat) (c : Str) (F : List PV → M PV) (neg : Bool) : PV → PV → M PV := fun x y st => match btP y with
  | some _ => (noX (callO n c F x [y] st)).bind fun q st => match q with
    | .bl b => .ok (.bl (b != neg)) st
    | _ => .stuck
  | none => .stuck
def eqLF (n : Nat) (c : Str) (F : List PV → M PV) (neg : Bool) : PV → PV → M PV := fun x y st => match btP x with
  | some _ => (noX (callO n c F y [x] st)).bind fun q st => match q with
    | .bl b => .ok (.bl (b != neg)) st
    | _ => .stuck
  | none => .stuck
theorem sop_eqR {G : GC} {c : Str} {n : Nat} {F : List PV → M PV} {neg : Bool} : SOp G (rEqR G c n F neg) (eqRF n c F neg) := by
  intro r H st p q x y E Q R hx hy h
  unfold eqRF at h
  split at h
  · rename_i t hi
    refine ⟨⟨t, btP_ok hy hi⟩, ?_⟩
    refine callO_ok (E := fun _ _ _ => False) R hx (RepL.cons hy RepL.nil) (Post.noX h.bind |>.imp fun q st1 r1 H1 t1 R1 h1 w hw => ?_)
    split at h1
    · rename_i b
      simp only [Rep] at hw
      subst hw
      exact ⟨b, rfl, h1 r1 H1 Step.refl R1 _ rep_bl⟩
    · exact h1.elim
  · exact h.elim
theorem sop_eqL {G : GC} {c : Str} {n : Nat} {F : List PV → M PV} {neg : Bool} : SOp G (rEqL G c n F neg) (eqLF n c F neg) := by
  intro r H st p q x y E Q R hx hy h
  unfold eqLF at h
  split at h
  · rename_i t hi
    refine ⟨⟨t, btP_ok hx hi⟩, ?_⟩
    refine callO_ok (E := fun _ _ _ => False) R hy (RepL.cons hx RepL.nil) (Post.noX h.bind |>.imp fun q st1 r1 H1 t1 R1 h1 w hw => ?_)
    split at h1
    · rename_i b
      simp only [Rep] at hw
      subst hw
      exact ⟨b, rfl, h1 r1 H1 Step.refl R1 _ rep_bl⟩
    · exact h1.elim
  · exact h.elim
end CD

set_option Elab.async false
set_option linter.all false
set_option maxRecDepth 100000
set_option maxHeartbeats 2000000
namespace CD
open PySem PySem.Spec PyProof.Rows L2 RZ StX ClX
variable {X : Cx} {W : WX}
/-! ### texts: a sign, a slice, a sum, in, index, their walk -/
def sg (c : Nat) : PV := .str ⟨#[c]⟩
theorem le_sizeLine {n : Nat} (h : n ≤ 100000) : n ≤ sizeLine := Nat.le_trans h (by decide)
def ixS : PV → PV → M PV := fun p q st => match p, q with
  | .str z, .int i => if z.length ≤ 100000 then match atI z.cps.toList i with
    | some c => .ok (sg c) st
    | none => .stuck
    else .stuck
  | _, _ => .stuck
theorem sop_ixS {G : GC} : SOp G rIxS ixS := by
  intro r H st p q x y E Q R hx hy h
  unfold ixS at h
  split at h
  · rename_i z i
    split at h
    · rename_i hz
      split at h
      · rename_i c hc
        simp only [Rep] at hx hy
        exact ⟨z, i, c, hx, hy, le_sizeLine hz, hc, h r H Step.refl R _ (by simp only [sg, Rep])⟩
      · exact h.elim
    · exact h.elim
  · exact h.elim
theorem se_ixS {a b : Expr} {ta tb : TE} {da db : DE} {pos : Pos} (ha : SE X W a ta da) (hb : SE X W b tb db) (hs : PlainIx b := by exact fun _ _ => rfl) : SE X W (.Subscript a b pos) (tOp rIxS ta tb) (d2 ixS da db) :=
  ⟨pe_ix ix_str ha.pe hb.pe hs, so2 ha hb sop_ixS⟩
def slS (d : DE) (lo hi : PEnv → M (Option Int)) : DE := fun env st => (d env st).bind fun p st => (lo env st).bind fun i st => (hi env st).bind fun j st => match p with
  | .str z => if z.length ≤ 100000 then .ok (.str (cutS z i j)) st else .stuck
  | _ => .stuck
theorem se_slS {a : Expr} {lo hi : Option Expr} {ta : TE} {tl th} {da : DE} {dl dh : PEnv → M (Option Int)} {p2 pos : Pos} (ha : SE X W a ta da) (hl : SO X W lo tl dl) (hh : SO X W hi th dh) :
    SE X W (.Subscript a (.Slice lo hi none p2) pos) (tSl rSlS ta tl th) (slS da dl dh) := by
  refine ⟨pe_slice sl_str ha.pe hl.po hh.po, fun r s H env st Q E R h => ?_⟩
  refine ha.so r s H env st _ E R (h.bind.imp fun p st1 r1 H1 t1 R1 h1 x hx => ?_)
  refine hl.so r1 s H1 env st1 _ (E.step t1) R1 (h1.bind.imp fun i st2 r2 H2 t2 R2 h2 => ?_)
  refine hh.so r2 s H2 env st2 _ ((E.step t1).step t2) R2 (h2.bind.imp fun j st3 r3 H3 t3 R3 h3 => ?_)
  split at h3
  · rename_i z
    simp only [Rep] at hx
    split at h3
    · rename_i hz
      exact ⟨z, hx, le_sizeLine hz, h3 r3 H3 Step.refl R3 _ (by simp only [Rep])⟩
    · exact h3.elim
  · exact h3.elim
def rInT (neg : Bool) : R2 := fun x y H Q => ∃ (c : Nat) (z : Str), x = .str ⟨#[c]⟩ ∧ y = .str z ∧ Q (.bl (decide (c ∈ z.cps.toList) != neg)) H
theorem op_inT : OpR X (compareOp .In) (rInT false) := fun pins s σ H x y v u Q I rx ry h => op_in_sign pins s σ H x y v u Q I rx ry (by
  obtain ⟨c, z, e1, e2, q⟩ := h
  exact ⟨c, z, e1, e2, by simpa using q⟩)
theorem op_notInT : OpR X (compareOp .NotIn) (rInT true) := fun pins s σ H x y v u Q I rx ry h => op_notIn_sign pins s σ H x y v u Q I rx ry (by
  obtain ⟨c, z, e1, e2, q⟩ := h
  exact ⟨c, z, e1, e2, by simpa using q⟩)
def inT (neg : Bool) : PV → PV → M PV := fun p q st => match p, q with
  | .str x, .str z => match x.cps.toList with
    | [c] => .ok (.bl (decide (c ∈ z.cps.toList) != neg)) st
    | _ => .stuck
  | _, _ => .stuck
theorem str_one {x : Str} {c : Nat} (h : x.cps.toList = [c]) : x = ⟨#[c]⟩ := by
  obtain ⟨a⟩ := x
  have : a = #[c] := by
    apply Array.ext'
    simpa using h
  rw [this]
theorem sop_inT {G : GC} {neg : Bool} : SOp G (rInT neg) (inT neg) := by
  intro r H st p q x y E Q R hx hy h
  unfold inT at h
  split at h
  · rename_i a z
    split at h
    · rename_i c hc
      simp only [Rep] at hx hy
      rw [str_one hc] at hx
      exact ⟨c, z, hx, hy, h r H Step.refl R _ rep_bl⟩
    · exact h.elim
  · exact h.elim
def sidxF : PV → List PV → M PV := fun p ps st => match p, ps with
  | .str a, [.str b] => match Builtin.Str.occurrences a b 0 a.length 1 with
    | i :: _ => .ok (.int (i : Nat)) st
    | [] => .stuck
  | _, _ => .stuck
def rSidx : V → List V → Hp → VK → Prop := fun x xs H Q => ∃ a b i rest, x = .str a ∧ xs = [.str b] ∧ Builtin.Str.occurrences a b 0 a.length 1 = i :: rest ∧ Q (.int (i : Nat)) H
theorem smeth_sidx {G : GC} : SMeth G rSidx sidxF := by
  intro r H st p x ps xs E Q R hx hxs h
  unfold sidxF at h
  split at h
  · rename_i a b
    obtain ⟨v, rfl, k⟩ := rep1 hxs
    simp only [Rep] at hx k
    split at h
    · rename_i i rest ho
      exact ⟨a, b, i, rest, hx, by rw [k], ho, h r H Step.refl R _ rep_int⟩
    · exact h.elim
  · exact h.elim
def itemsS (d : DE) : PEnv → M (List PV) := fun env st => (d env st).bind fun p st => match p with
  | .str x => .ok (x.cps.toList.map sg) st
  | _ => .stuck
theorem walks_str {G : GC} {r : Loc} {H : Hp} {x : Str} : CD.Walks G (Its x) r H (x.cps.toList.map sg) := by
  refine ⟨fun _ => True, fun i H v H' => H' = H ∧ ∃ c, x.cps[i]? = some c ∧ v = .str ⟨#[c]⟩, by
    rw [List.length_map, Array.length_toList]; exact walk_str, fun _ _ _ => trivial, fun i r1 H1 st v H2 p e R y hp => ?_⟩
  obtain ⟨rfl, c, hc, rfl⟩ := y
  rw [List.getElem?_map, Array.getElem?_toList, hc] at hp
  cases hp
  exact ⟨fun _ _ h => h, by simp only [sg, Rep]⟩
theorem si_str {tg l : Expr} {tl : TE} {d : DE} (h : SE X W l tl d) : SI X W tg l (iStr tl) (itemsS d) := by
  refine ⟨pi_str h.pe, fun r s H env st R E Rl q => ?_⟩
  refine h.so r s H env st _ E Rl (q.bind.imp fun p st1 r1 H1 t1 R1 h1 v hv => ?_)
  cases p with
  | str x =>
    simp only [Rep] at hv
    exact ⟨x, hv, h1 r1 H1 Step.refl R1 _ walks_str⟩
  | _ => exact h1.elim
/-! ### enumerate of a text -/
def IteS (x : Str) : It :=
  ⟨fun i _ => i < x.cps.size,
    fun i H v H' => ∃ T c, v = .ref T ∧ H T = none ∧ H' = upd H T (.tup [.int (i : Nat), .str ⟨#[c]⟩]) ∧ x.cps[i]? = some c,
    fun i _ => i = x.cps.size⟩
theorem turn_eS {P : Program} {w : World} {K : PySem.W.Frag} {elts : List Expr} {kk : Nat} {tpos : Pos} {x : Str} {t : Tok} {e it : Addr} (n1 : e ≠ it) :
    Turn P w K (.Tuple elts kk tpos) (IteS x) [e, it] e (fun i h => (∃ old, IsEnum h e it ((i : Nat) : Int) old) ∧ h.IsStrIter it (strIterType x) x t i) where
  mem := by simp
  obj := fun i h st c hc => by
    obtain ⟨⟨old, he⟩, h1⟩ := st
    have e' : c = e ∨ c = it := by simpa using hc
    rcases e' with q | q
    · rw [q]; exact ⟨_, he, fun v q => nomatch q⟩
    · rw [q]
      obtain ⟨o, eo, c, d⟩ := h1
      exact ⟨o, eo, fun v z => by rw [d] at z; cases z⟩
  keep := fun i h h' st k => by
    obtain ⟨⟨old, he⟩, ⟨o, ho, r⟩⟩ := st
    exact ⟨⟨old, k e (by simp) _ he⟩, ⟨o, k it (by simp) o ho, r⟩⟩
  item := by
    intro X hP hw hK hc i pins s σ H E I hf st hg
    subst hP hw hK
    obtain ⟨⟨old, he⟩, h1⟩ := st
    have D1 := Draws.text (prog := X.prog) (w := X.w) (A := X.A.in1) (I.ok.hd hc) it x t
    refine (GoesN.enumFrom (elts := elts) (x1 := kk) (pos := tpos) 0 D1 e n1 (by simp; exact n1) (by simp)).goes i s _ E hg ⟨⟨old, by rw [Int.zero_add]; exact he⟩, h1⟩ fun v h' tk hY hSt hk htk => ?_
    obtain ⟨T, t1, v1, rfl, hT, ⟨c, u1, hcx, rfl⟩, hTT⟩ := hY
    rw [Int.zero_add] at hTT
    obtain ⟨⟨old', he'⟩, h1'⟩ := hSt
    rw [Int.zero_add] at he'
    obtain ⟨oT, gT, cT, nT, dT⟩ := hTT
    have new : ObjOk X.prog X.w (upd H T (.tup [.int (i : Nat), .str ⟨#[c]⟩])) h' T (.tup [.int (i : Nat), .str ⟨#[c]⟩]) :=
      ⟨by show 2 ≤ sizeLine; decide, [.int i t1, .str ⟨#[c]⟩ u1], .cons ⟨_, rfl⟩ (.cons ⟨_, rfl⟩ .nil), ⟨oT, gT, cT, nT, dT⟩⟩
    have I1 : Inv X pins σ (upd H T (.tup [.int (i : Nat), .str ⟨#[c]⟩])) { s with heap := h', toks := tk } :=
      I.turnedNew (ch := [e, it]) (fun c o hb q => hk c o hb q) hf hT new
    refine ⟨.ref T, _, I1, rfl, ⟨T, c, rfl, I.hok.fresh hT, rfl, hcx⟩, ⟨⟨old', he'⟩, h1'⟩, fun c hcm => ?_⟩
    have hlt : c < s.heap.objs.size := by
      have e' : c = e ∨ c = it := by simpa using hcm
      rcases e' with q | q
      · rw [q]; exact Heap.lt_size he
      · rw [q]; obtain ⟨_, e1, _⟩ := h1; exact Heap.lt_size e1
    rw [upd_ne (Nat.ne_of_lt (Nat.lt_of_lt_of_le hlt hT))]
    exact (hf c hcm).1
  done := by
    intro X hP hw hK hc i pins s σ H E I hf st hg
    subst hP hw hK
    obtain ⟨⟨old, he⟩, h1⟩ := st
    have hg' : i = x.cps.size := hg
    subst hg'
    have D1 := Draws.text (prog := X.prog) (w := X.w) (A := X.A.in1) (I.ok.hd hc) it x t
    exact (GoesN.enumFrom (elts := elts) (x1 := kk) (pos := tpos) 0 D1 e n1 (by simp; exact n1) (by simp)).stops s _ E ⟨⟨old, by rw [Int.zero_add]; exact he⟩, h1⟩ fun h' tk hk htk =>
      I.turnedL (ch := [e, it]) (fun c o hb q => hk c o hb q) hf
  self := fun A i s Q E st h => let ⟨⟨_, he⟩, _⟩ := st; wpAny_pyIter_enum he h
def iEnumS (ta : TA) : TI := fun σ H R => ta σ H fun vs H1 => ∃ x, vs = [.str x] ∧ R (IteS x) H1
theorem pi_enumS {e : Expr} {ta : TA} {p pos tpos : Pos} {elts : List Expr} {kk : Nat} (hg : Gl X "enumerate") (hm : X.mg "enumerate" = none) (ha : PA X [e] ta) (hs : starEach [e] X.env = [(false, eval e X.env)] := by rfl) :
    PI X (.Tuple elts kk tpos) (.Call (.Name "enumerate" p) [e] [] pos) (iEnumS ta) := by
  refine ⟨fun pins s σ H R I h => ?_⟩
  refine Call_ (ld_blt I hg hm boot_enumerate (PyProof.Rows.callWith_type1 (thn (ha.run pos pins s σ H _ I h) fun us s1 ⟨vs, H1, I1, r1, q1⟩ => ?_) hs rfl))
  obtain ⟨x, ex, q⟩ := q1
  subst ex
  cases r1 with
  | cons r rr =>
    cases rr
    obtain ⟨t, rfl⟩ := r
    refine enum_begins1 (begins_text x t) trivial fun h' he g1 hsz hk => wpAny_pyIter_enum he ?_
    have I2 : Inv X pins σ H1 { s1 with heap := h' } := I1.kept (t' := s1.toks) hk
    refine ⟨s1.heap.objs.size + 1, [s1.heap.objs.size + 1, s1.heap.objs.size], _, _, H1, rfl, I2, turn_eS (x := x) (t := t) (Nat.succ_ne_self _), ⟨⟨.none, he⟩, ⟨_, g1, rfl, rfl⟩⟩, fun b hb => ?_, q⟩
    have e' : b = s1.heap.objs.size + 1 ∨ b = s1.heap.objs.size := by simpa using hb
    have hle : s1.heap.objs.size ≤ b := by
      rcases e' with z | z
      · rw [z]; exact Nat.le_add_right _ _
      · rw [z]; exact Nat.le_refl _
    exact I1.fpOk hle (I1.hok.fresh hle)
theorem walk_eS {x : Str} : Walk (IteS x) x.cps.size (fun _ => True) (YPair (fun i => some (.int (i : Nat))) (fun i => (x.cps[i]?).map fun c => V.str ⟨#[c]⟩)) := by
  refine ⟨fun i _ hi _ => hi, fun _ _ => rfl, fun i H v H' _ _ y => ?_⟩
  obtain ⟨T, c, h1, h2, h3, h4⟩ := y
  exact ⟨T, _, _, h1, h2, h3, rfl, by show (x.cps[i]?).map _ = _; rw [h4]; rfl⟩
def enumS (ds : PEnv → M (List PV)) : PEnv → M (List PV) := fun env st => (ds env st).bind fun ps st => match ps with
  | [.str x] => .ok (pairs (intL 0 x.cps.size) (x.cps.toList.map sg)) st
  | _ => .stuck
theorem si_enumS {e : Expr} {ta : TA} {ds : PEnv → M (List PV)} {p pos tpos : Pos} {elts : List Expr} {kk : Nat} (hg : Gl X "enumerate") (hm : X.mg "enumerate" = none) (ha : SA X W [e] ta ds) (hs : starEach [e] X.env = [(false, eval e X.env)] := by rfl) :
    SI X W (.Tuple elts kk tpos) (.Call (.Name "enumerate" p) [e] [] pos) (iEnumS ta) (enumS ds) := by
  refine ⟨pi_enumS hg hm ha.pa hs, fun r s H env st R E Rl q => ?_⟩
  refine ha.so r s H env st _ E Rl (q.bind.imp fun ps st1 r1 H1 t1 R1 h1 vs hv => ?_)
  split at h1
  · rename_i x
    obtain ⟨v, rfl, k⟩ := rep1 hv
    simp only [Rep] at k
    subst k
    refine ⟨x, rfl, h1 r1 H1 Step.refl R1 _ ?_⟩
    exact walks_pairs (n := x.cps.size) (by simp [intL]) walk_eS (fun r' H' e => trivial) (fun i v p hi hp => by
      cases hi; rw [intL_get hp]; simp only [Rep]; simp) (fun i v p hi hp => by
      rw [List.getElem?_map, Array.getElem?_toList] at hp
      cases q : x.cps[i]? with
      | none => rw [q] at hp; cases hp
      | some c =>
        rw [q] at hp hi
        cases hp; cases hi
        simp only [sg, Rep])
  · exact h1.elim
theorem ev_itemsS {d : DE} {env : PEnv} {st s1 : Store} {x : Str} (h : d env st = .ok (.str x) s1) : itemsS d env st = .ok (x.cps.toList.map sg) s1 := by unfold itemsS; rw [h]; rfl
theorem ev_enumS {d : DE} {env : PEnv} {st s1 : Store} {x : Str} (h : d env st = .ok (.str x) s1) : enumS (dCons d dNil) env st = .ok (pairs (intL 0 x.cps.size) (x.cps.toList.map sg)) s1 := by unfold enumS; rw [args1 h args0]; rfl
end CD

set_option Elab.async false
set_option linter.all false
set_option maxRecDepth 100000
set_option maxHeartbeats 4000000
namespace CD
open PySem PySem.Spec PyProof.Rows L2 RZ StX ClX
namespace K53
/-! ### the text -/
def topS (i : Nat) : Stmt := PySem.Challenge.pw_checkdigits_k53_codes_written.main.body.getD i (.Pass ⟨0, 0, 0, 0⟩)
def subS (s : Stmt) (j : Nat) : Stmt := match s with
  | .ClassDef _ _ _ body _ _ _ _ _ _ _ => body.getD j (.Pass ⟨0, 0, 0, 0⟩)
  | _ => .Pass ⟨0, 0, 0, 0⟩
def Z__law_coin : { s : Stmt // s = topS 44 } := by
  refine ⟨?s, ?h⟩
  case h =>
    conv => rhs; whnf
abbrev S__law_coin : Stmt := Z__law_coin.1
def Z__law_purse : { s : Stmt // s = topS 43 } := by
  refine ⟨?s, ?h⟩
  case h =>
    conv => rhs; whnf
abbrev S__law_purse : Stmt := Z__law_purse.1
def Z__law_signs : { s : Stmt // s = topS 45 } := by
  refine ⟨?s, ?h⟩
  case h =>
    conv => rhs; whnf
abbrev S__law_signs : Stmt := Z__law_signs.1
def Z_fits_places : { s : Stmt // s = topS 24 } := by
  refine ⟨?s, ?h⟩
  case h =>
    conv => rhs; whnf
abbrev S_fits_places : Stmt := Z_fits_places.1
def Z_is_integer : { s : Stmt // s = topS 14 } := by
  refine ⟨?s, ?h⟩
  case h =>
    conv => rhs; whnf
abbrev S_is_integer : Stmt := Z_is_integer.1
def Z_is_integer_within : { s : Stmt // s = topS 15 } := by
  refine ⟨?s, ?h⟩
  case h =>
    conv => rhs; whnf
abbrev S_is_integer_within : Stmt := Z_is_integer_within.1
def Z_sign_of : { s : Stmt // s = topS 33 } := by
  refine ⟨?s, ?h⟩
  case h =>
    conv => rhs; whnf
abbrev S_sign_of : Stmt := Z_sign_of.1
def Z_text_of : { s : Stmt // s = topS 34 } := by
  refine ⟨?s, ?h⟩
  case h =>
    conv => rhs; whnf
abbrev S_text_of : Stmt := Z_text_of.1
def Z_format_code : { s : Stmt // s = topS 37 } := by
  refine ⟨?s, ?h⟩
  case h =>
    conv => rhs; whnf
abbrev S_format_code : Stmt := Z_format_code.1
def Z_is_base : { s : Stmt // s = topS 16 } := by
  refine ⟨?s, ?h⟩
  case h =>
    conv => rhs; whnf
abbrev S_is_base : Stmt := Z_is_base.1
def Z_check_base : { s : Stmt // s = topS 17 } := by
  refine ⟨?s, ?h⟩
  case h =>
    conv => rhs; whnf
abbrev S_check_base : Stmt := Z_check_base.1
def Z_check_signs : { s : Stmt // s = topS 41 } := by
  refine ⟨?s, ?h⟩
  case h =>
    conv => rhs; whnf
abbrev S_check_signs : Stmt := Z_check_signs.1
def Z_check_text : { s : Stmt // s = topS 40 } := by
  refine ⟨?s, ?h⟩
  case h =>
    conv => rhs; whnf
abbrev S_check_text : Stmt := Z_check_text.1
def Z_digits_of : { s : Stmt // s = topS 35 } := by
  refine ⟨?s, ?h⟩
  case h =>
    conv => rhs; whnf
abbrev S_digits_of : Stmt := Z_digits_of.1
def Z_parse_code : { s : Stmt // s = topS 38 } := by
  refine ⟨?s, ?h⟩
  case h =>
    conv => rhs; whnf
abbrev S_parse_code : Stmt := Z_parse_code.1
def Z_parse_partial : { s : Stmt // s = topS 39 } := by
  refine ⟨?s, ?h⟩
  case h =>
    conv => rhs; whnf
abbrev S_parse_partial : Stmt := Z_parse_partial.1
def Z__law_right : { s : Stmt // s = topS 46 } := by
  refine ⟨?s, ?h⟩
  case h =>
    conv => rhs; whnf
abbrev S__law_right : Stmt := Z__law_right.1
def Z_law : { s : Stmt // s = topS 47 } := by
  refine ⟨?s, ?h⟩
  case h =>
    conv => rhs; whnf
abbrev S_law : Stmt := Z_law.1
def OWN : List Str := ["Rule"]
def ITAB : IT := [("Rule", "Rule", true)]
abbrev L__law_coin : Nat := 1
theorem sc__law_coin : FnScope ["purse", "many", "digit", "mixed"] ["purse", "many"] (defScope S__law_coin) := ⟨rfl, rfl, rfl, by decide +kernel, rfl, by decide +kernel, by decide +kernel⟩
abbrev L__law_purse : Nat := 1
theorem sc__law_purse : FnScope ["script", "k", "cell"] ["script", "k"] (defScope S__law_purse) := ⟨rfl, rfl, rfl, by decide +kernel, rfl, by decide +kernel, by decide +kernel⟩
abbrev L__law_signs : Nat := 1
theorem sc__law_signs : FnScope ["digits", "signs", "digit"] ["digits"] (defScope S__law_signs) := ⟨rfl, rfl, rfl, by decide +kernel, rfl, by decide +kernel, by decide +kernel⟩
abbrev L_fits_places : Nat := 1
theorem sc_fits_places : FnScope ["value"] ["value"] (defScope S_fits_places) := ⟨rfl, rfl, rfl, by decide +kernel, rfl, by decide +kernel, by decide +kernel⟩
abbrev L_is_integer : Nat := 1
theorem sc_is_integer : FnScope ["value"] ["value"] (defScope S_is_integer) := ⟨rfl, rfl, rfl, by decide +kernel, rfl, by decide +kernel, by decide +kernel⟩
abbrev L_is_integer_within : Nat := 2
theorem sc_is_integer_within : FnScope ["value", "least", "greatest"] ["value", "least", "greatest"] (defScope S_is_integer_within) := ⟨rfl, rfl, rfl, by decide +kernel, rfl, by decide +kernel, by decide +kernel⟩
abbrev L_sign_of : Nat := 1
theorem sc_sign_of : FnScope ["digit"] ["digit"] (defScope S_sign_of) := ⟨rfl, rfl, rfl, by decide +kernel, rfl, by decide +kernel, by decide +kernel⟩
abbrev L_text_of : Nat := 2
theorem sc_text_of : FnScope ["digits", "digit"] ["digits"] (defScope S_text_of) := ⟨rfl, rfl, rfl, by decide +kernel, rfl, by decide +kernel, by decide +kernel⟩
abbrev L_format_code : Nat := 3
theorem sc_format_code : FnScope ["code", "digit"] ["code"] (defScope S_format_code) := ⟨rfl, rfl, rfl, by decide +kernel, rfl, by decide +kernel, by decide +kernel⟩
abbrev L_is_base : Nat := 3
theorem sc_is_base : FnScope ["value"] ["value"] (defScope S_is_base) := ⟨rfl, rfl, rfl, by decide +kernel, rfl, by decide +kernel, by decide +kernel⟩
abbrev L_check_base : Nat := 4
theorem sc_check_base : FnScope ["base"] ["base"] (defScope S_check_base) := ⟨rfl, rfl, rfl, by decide +kernel, rfl, by decide +kernel, by decide +kernel⟩
abbrev L_check_signs : Nat := 1
theorem sc_check_signs : FnScope ["text", "signs", "index", "sign"] ["text", "signs"] (defScope S_check_signs) := ⟨rfl, rfl, rfl, by decide +kernel, rfl, by decide +kernel, by decide +kernel⟩
abbrev L_check_text : Nat := 1
theorem sc_check_text : FnScope ["text"] ["text"] (defScope S_check_text) := ⟨rfl, rfl, rfl, by decide +kernel, rfl, by decide +kernel, by decide +kernel⟩
abbrev L_digits_of : Nat := 1
theorem sc_digits_of : FnScope ["text", "sign"] ["text"] (defScope S_digits_of) := ⟨rfl, rfl, rfl, by decide +kernel, rfl, by decide +kernel, by decide +kernel⟩
abbrev L_parse_code : Nat := 5
theorem sc_parse_code : FnScope ["text", "base"] ["text", "base"] (defScope S_parse_code) := ⟨rfl, rfl, rfl, by decide +kernel, rfl, by decide +kernel, by decide +kernel⟩
abbrev L_parse_partial : Nat := 5
theorem sc_parse_partial : FnScope ["text", "base"] ["text", "base"] (defScope S_parse_partial) := ⟨rfl, rfl, rfl, by decide +kernel, rfl, by decide +kernel, by decide +kernel⟩
abbrev L__law_right : Nat := 6
theorem sc__law_right : FnScope ["digits", "wide", "open_spots", "page", "most", "found", "some", "spot", "digit"] ["digits", "wide", "open_spots"] (defScope S__law_right) := ⟨rfl, rfl, rfl, by decide +kernel, rfl, by decide +kernel, by decide +kernel⟩
abbrev L_law : Nat := 7
theorem sc_law : FnScope ["script", "k", "purse", "wide", "size", "digits", "spots", "turn", "spot"] ["script"] (defScope S_law) := ⟨rfl, rfl, rfl, by decide +kernel, rfl, by decide +kernel, by decide +kernel⟩

/-! ### what the defs are worth -/
noncomputable def propD (c : Str) (F : List PV → M PV) (d : DE) : DE := fun env st => (d env st).bind fun p st => noX (callO 1 c F p [] st)
noncomputable def D__law_coin : DS :=
  (seqD (ifS (dB (d2 gtD (d2 ixD (dV 0) (dC (.int 0))) (dC (.int 0))))
  (seqD (setD 2 (d2 modD (d2 ixD (dV 0) (dC (.int 0))) (dV 1)))
  (seqD (asgD (d2 divD (d2 ixD (dV 0) (dC (.int 0))) (dV 1)) (fun v env st => noX (gIx (dV 0) (dC (.int 0)) v env st)))
  (seqD (retD (dV 2))
  skipD)))
  skipD)
  (seqD (asgD (d2 addD (d2 ixD (dV 0) (dC (.int 2))) (dC (.int 1))) (fun v env st => noX (gIx (dV 0) (dC (.int 2)) v env st)))
  (seqD (setD 3 (d2 modD (d2 powD (d2 addD (d2 ixD (dV 0) (dC (.int 1))) (d2 mulD (dC (.int 472882027)) (d2 ixD (dV 0) (dC (.int 2))))) (dC (.int 3))) (d2 addD (d2 powD (dC (.int 10)) (dC (.int 41))) (dC (.int 109)))))
  (seqD (setD 3 (d2 modD (d2 powD (d2 addD (dV 3) (d2 mulD (dC (.int 373587883)) (d2 ixD (dV 0) (dC (.int 2))))) (dC (.int 3))) (d2 addD (d2 powD (dC (.int 10)) (dC (.int 40))) (dC (.int 121)))))
  (seqD (retD (d2 modD (d2 divD (dV 3) (dC (.int 99989))) (dV 1)))
  skipD)))))
noncomputable def F__law_coin : List PV → M PV := (bodyF 4 D__law_coin)
noncomputable def D__law_purse : DS :=
  (seqD (setD 2 (ifD (dB (d2 ltD (dV 1) (callD lenF (dCons (dV 0) dNil)))) (d2 ixD (dV 0) (dV 1)) (dC (.int 0))))
  (seqD (retD (lstM (dCons (callD maxF (dCons (dC (.int 0)) (dCons (d2 subD (callD absF (dCons (dV 2) dNil)) (d2 powD (dC (.int 10)) (dC (.int 18)))) dNil))) (dCons (d2 addD (d2 addD (d2 mulD (d2 modD (dV 2) (d2 addD (d2 powD (dC (.int 10)) (dC (.int 36))) (dC (.int 67)))) (dC (.int 13))) (d2 mulD (dC (.int 6007)) (dV 1))) (dC (.int 5))) (dCons (dC (.int 0)) dNil)))))
  skipD))
noncomputable def F__law_purse : List PV → M PV := (bodyF 3 D__law_purse)
noncomputable def D__law_signs : DS :=
  (seqD (setD 1 (dC (.str "0123456789abcdefghijklmnopqrstuvwxyz")))
  (seqD (retD (methD isS joinF (dC (.str "")) (dCons (lcD okL (itemsD (dV 0)) [2] (gN 2) yesB (ifD (dB (d2 (isD false) (dV 2) (dC .non))) (dC (.str "?")) (d2 ixS (dV 1) (dV 2)))) dNil)))
  skipD))
noncomputable def F__law_signs : List PV → M PV := (bodyF 3 D__law_signs)
noncomputable def D_fits_places : DS :=
  (seqD (retD (andD (callD (isiF OWN ITAB) (dCons (dV 0) (dCons (dC (.ty "tuple")) dNil))) (chD leD leD (dC (.int 1)) (callD lenF (dCons (dV 0) dNil)) (dC (.int 30)))))
  skipD)
noncomputable def F_fits_places : List PV → M PV := (bodyF 1 D_fits_places)
noncomputable def D_is_integer : DS :=
  (seqD (retD (andD (callD (isiF OWN ITAB) (dCons (dV 0) (dCons (dC (.ty "int")) dNil))) (notD (callD (isiF OWN ITAB) (dCons (dV 0) (dCons (dC (.ty "bool")) dNil))))))
  skipD)
noncomputable def F_is_integer : List PV → M PV := (bodyF 1 D_is_integer)
noncomputable def D_is_integer_within : DS :=
  (seqD (retD (andD (callF 1 F_is_integer (dCons (dV 0) dNil) []) (chD leD leD (dV 1) (dV 0) (dV 2))))
  skipD)
noncomputable def F_is_integer_within : List PV → M PV := (bodyF 3 D_is_integer_within)
noncomputable def D_sign_of : DS :=
  (seqD (retD (ifD (dB (d2 (isD false) (dV 0) (dC .non))) (dC (.str "?")) (d2 ixS (dC (.str "0123456789abcdefghijklmnopqrstuvwxyz")) (dV 0))))
  skipD)
noncomputable def F_sign_of : List PV → M PV := (bodyF 1 D_sign_of)
noncomputable def D_text_of : DS :=
  (seqD (retD (methD isS joinF (dC (.str "")) (dCons (lcD okL (itemsD (dV 0)) [1] (gN 1) yesB (callF 1 F_sign_of (dCons (dV 1) dNil) [])) dNil)))
  skipD)
noncomputable def F_text_of : List PV → M PV := (bodyF 2 D_text_of)
noncomputable def D_format_code : DS :=
  (seqD (ifS (orB (notB (dB (callF 1 F_fits_places (dCons (dV 0) dNil) []))) (notB (dB (callD (boolsF fun bs => bs.all id) (dCons (lcD okL (itemsD (dV 0)) [1] (gN 1) yesB (callF 3 F_is_integer_within (dCons (dV 1) (dCons (dC (.int 0)) (dCons (d2 subD (dC (.int 36)) (dC (.int 1))) dNil))) [])) dNil)))))
  (seqD stuckD
  skipD)
  skipD)
  (seqD (retD (callF 1 F_text_of (dCons (dV 0) dNil) []))
  skipD))
noncomputable def F_format_code : List PV → M PV := (bodyF 2 D_format_code)
noncomputable def D_is_base : DS :=
  (seqD (retD (callF 3 F_is_integer_within (dCons (dV 0) (dCons (dC (.int 2)) (dCons (dC (.int 36)) dNil))) []))
  skipD)
noncomputable def F_is_base : List PV → M PV := (bodyF 1 D_is_base)
noncomputable def D_check_base : DS :=
  (seqD (ifS (notB (dB (callF 1 F_is_base (dCons (dV 0) dNil) [])))
  (seqD stuckD
  skipD)
  skipD)
  skipD)
noncomputable def F_check_base : List PV → M PV := (bodyF 1 D_check_base)
noncomputable def D_check_signs : DS :=
  (seqD (ifS (notB (dTru (dV 0)))
  (seqD stuckD
  skipD)
  skipD)
  (seqD (forD (enumS (dCons (dV 0) dNil)) (gT 2 (gMore (gN 2) (gMore (gN 3) gNone)))
  (seqD (ifS (orB (dB (d2 (inT true) (dV 3) (dV 1))) (dB (d2 (eqD false) (dV 2) (dC (.int 30)))))
  (seqD stuckD
  skipD)
  skipD)
  skipD))
  skipD))
noncomputable def F_check_signs : List PV → M PV := (bodyF 4 D_check_signs)
noncomputable def D_check_text : DS :=
  (seqD (ifS (notB (dB (callD (isiF OWN ITAB) (dCons (dV 0) (dCons (dC (.ty "str")) dNil)))))
  (seqD stuckD
  skipD)
  skipD)
  skipD)
noncomputable def F_check_text : List PV → M PV := (bodyF 1 D_check_text)
noncomputable def D_digits_of : DS :=
  (seqD (retD (callD tupF (dCons (lcD okL (itemsS (dV 0)) [1] (gN 1) yesB (ifD (dB (d2 (eqD false) (dV 1) (dC (.str "?")))) (dC .non) (methD isS sidxF (dC (.str "0123456789abcdefghijklmnopqrstuvwxyz")) (dCons (dV 1) dNil)))) dNil)))
  skipD)
noncomputable def F_digits_of : List PV → M PV := (bodyF 2 D_digits_of)
noncomputable def D_parse_code : DS :=
  (seqD (exprD (callF 1 F_check_text (dCons (dV 0) dNil) []))
  (seqD (exprD (callF 1 F_check_base (dCons (dV 1) dNil) []))
  (seqD (exprD (callF 2 F_check_signs (dCons (dV 0) (dCons (slS (dC (.str "0123456789abcdefghijklmnopqrstuvwxyz")) noPart (partOf (dV 1))) dNil)) []))
  (seqD (retD (callF 1 F_digits_of (dCons (dV 0) dNil) []))
  skipD))))
noncomputable def F_parse_code : List PV → M PV := (bodyF 2 D_parse_code)
noncomputable def D_parse_partial : DS :=
  (seqD (exprD (callF 1 F_check_text (dCons (dV 0) dNil) []))
  (seqD (exprD (callF 1 F_check_base (dCons (dV 1) dNil) []))
  (seqD (exprD (callF 2 F_check_signs (dCons (dV 0) (dCons (d2 addD (slS (dC (.str "0123456789abcdefghijklmnopqrstuvwxyz")) noPart (partOf (dV 1))) (dC (.str "?"))) dNil)) []))
  (seqD (retD (callF 1 F_digits_of (dCons (dV 0) dNil) []))
  skipD))))
noncomputable def F_parse_partial : List PV → M PV := (bodyF 2 D_parse_partial)
noncomputable def D__law_right : DS :=
  (seqD (setD 3 (callF 1 F__law_signs (dCons (dV 0) dNil) []))
  (seqD (ifS (dB (d2 (eqD true) (callD reprF (dCons (lstD (dCons (callF 1 F_format_code (dCons (dV 0) dNil) []) (dCons (callK 0 1 1 [] [(1, 0)] F_format_code dNil (dCons (dV 0) dNil)) dNil))) dNil)) (callD reprF (dCons (lstD (dCons (dV 3) (dCons (dV 3) dNil))) dNil))))
  (seqD (retD (dC (.bl false)))
  skipD)
  skipD)
  (seqD (forD (itemsD (lstD (dCons (dV 1) (dCons (dC (.int 36)) (dCons (callD minF (dCons (dC (.int 36)) (dCons (d2 addD (dV 1) (dC (.int 1))) dNil))) dNil))))) (gN 4)
  (seqD (setD 5 (lstD (dCons (callF 2 F_parse_code (dCons (dV 3) (dCons (dV 4) dNil)) []) (dCons (callK 0 2 2 [] [(1, 1), (1, 0)] F_parse_code dNil (dCons (dV 4) (dCons (dV 3) dNil))) (dCons (callF 2 F_parse_partial (dCons (dV 3) (dCons (dV 4) dNil)) []) dNil)))))
  (seqD (ifS (dB (d2 (eqD true) (callD reprF (dCons (dV 5) dNil)) (callD reprF (dCons (d2 mulD (lstD (dCons (dV 0) dNil)) (dC (.int 3))) dNil))))
  (seqD (retD (dC (.bl false)))
  skipD)
  skipD)
  skipD)))
  (seqD (setD 6 (callD tupF (dCons (lcD okL (enumD2 (dCons (dV 0) dNil)) [7, 8] (gT 2 (gMore (gN 7) (gMore (gN 8) gNone))) yesB (ifD (dB (d2 (inD false) (dV 7) (dV 2))) (dC .non) (dV 8))) dNil)))
  (seqD (setD 5 (lstD (dCons (callF 2 F_parse_partial (dCons (callF 1 F__law_signs (dCons (dV 6) dNil) []) (dCons (dV 1) dNil)) []) (dCons (callK 0 2 2 [] [(1, 1), (1, 0)] F_parse_partial dNil (dCons (dV 1) (dCons (callF 1 F__law_signs (dCons (dV 6) dNil) []) dNil))) dNil))))
  (seqD (retD (d2 (eqD false) (callD reprF (dCons (dV 5) dNil)) (callD reprF (dCons (lstD (dCons (dV 6) (dCons (dV 6) dNil))) dNil))))
  skipD))))))
noncomputable def F__law_right : List PV → M PV := (bodyF 9 D__law_right)
noncomputable def D_law : DS :=
  (seqD (forD (rng1 (dCons (callD maxF (dCons (dC (.int 1)) (dCons (callD minF (dCons (dC (.int 5)) (dCons (callD lenF (dCons (dV 0) dNil)) dNil))) dNil))) dNil)) (gN 1)
  (seqD (setD 2 (callF 2 F__law_purse (dCons (dV 0) (dCons (dV 1) dNil)) []))
  (seqD (forD (itemsD (lstD (dCons (dC (.int 2)) (dCons (dC (.int 10)) (dCons (dC (.int 11)) (dCons (dC (.int 36)) (dCons (d2 addD (dC (.int 2)) (callF 2 F__law_coin (dCons (dV 2) (dCons (dC (.int 35)) dNil)) [])) (dCons (d2 addD (dC (.int 2)) (callF 2 F__law_coin (dCons (dV 2) (dCons (dC (.int 35)) dNil)) [])) dNil)))))))) (gN 3)
  (seqD (setD 4 (d2 ixD (lstD (dCons (d2 addD (dC (.int 1)) (callF 2 F__law_coin (dCons (dV 2) (dCons (dC (.int 6)) dNil)) [])) (dCons (d2 addD (dC (.int 1)) (callF 2 F__law_coin (dCons (dV 2) (dCons (dC (.int 30)) dNil)) [])) (dCons (dC (.int 30)) dNil)))) (callF 2 F__law_coin (dCons (dV 2) (dCons (dC (.int 3)) dNil)) [])))
  (seqD (setD 5 (callD tupF (dCons (lcD okL (rng1 (dCons (dV 4) dNil)) [8] (gN 8) yesB (callF 2 F__law_coin (dCons (dV 2) (dCons (dV 3) dNil)) [])) dNil)))
  (seqD (setD 6 (lcD okL (rng1 (dCons (callF 2 F__law_coin (dCons (dV 2) (dCons (dC (.int 9)) dNil)) []) dNil)) [7] (gN 7) yesB (callF 2 F__law_coin (dCons (dV 2) (dCons (dV 4) dNil)) [])))
  (seqD (ifS (orB (notB (dB (callF 3 F__law_right (dCons (dV 5) (dCons (dV 3) (dCons (dV 6) dNil))) []))) (notB (dB (callF 3 F__law_right (dCons (revD (dV 5)) (dCons (dV 3) (dCons (lrgVD (dV 4)) dNil))) []))))
  (seqD (retD (dC (.bl false)))
  skipD)
  skipD)
  skipD)))))
  skipD)))
  (seqD (ifS (orB (notB (dB (callF 3 F__law_right (dCons (trgVD (dC (.int 30))) (dCons (dC (.int 30)) (dCons (lstD (dCons (dC (.int 0)) (dCons (dC (.int 29)) dNil))) dNil))) []))) (notB (dB (callF 3 F__law_right (dCons (trg2VD (dC (.int 6)) (dC (.int 36))) (dCons (dC (.int 36)) (dCons (lstD dNil) dNil))) []))))
  (seqD (retD (dC (.bl false)))
  skipD)
  skipD)
  (seqD (retD (d2 (eqD false) (lstD (dCons (callF 1 F_format_code (dCons (tupD (dCons (dC (.int 2)) (dCons (dC (.int 11)) (dCons (dC (.int 0)) dNil)))) dNil) []) (dCons (callF 2 F_parse_partial (dCons (dC (.str "1?1?")) (dCons (dC (.int 10)) dNil)) []) dNil))) (lstD (dCons (dC (.str "2b0")) (dCons (tupD (dCons (dC (.int 1)) (dCons (dC .non) (dCons (dC (.int 1)) (dCons (dC .non) dNil))))) dNil)))))
  skipD)))
noncomputable def F_law : List PV → M PV := (bodyF 9 D_law)

/-! ### what the text must tell -/
structure Adr where
  g__law_coin : Addr
  f__law_coin : FuncData
  g__law_purse : Addr
  f__law_purse : FuncData
  g__law_signs : Addr
  f__law_signs : FuncData
  g_fits_places : Addr
  f_fits_places : FuncData
  g_is_integer : Addr
  f_is_integer : FuncData
  g_is_integer_within : Addr
  f_is_integer_within : FuncData
  g_sign_of : Addr
  f_sign_of : FuncData
  g_text_of : Addr
  f_text_of : FuncData
  g_format_code : Addr
  f_format_code : FuncData
  g_is_base : Addr
  f_is_base : FuncData
  g_check_base : Addr
  f_check_base : FuncData
  g_check_signs : Addr
  f_check_signs : FuncData
  g_check_text : Addr
  f_check_text : FuncData
  g_digits_of : Addr
  f_digits_of : FuncData
  g_parse_code : Addr
  f_parse_code : FuncData
  g_parse_partial : Addr
  f_parse_partial : FuncData
  g__law_right : Addr
  f__law_right : FuncData
  g_law : Addr
  f_law : FuncData
  C_Rule : Addr
  t_DIGIT_SIGNS : Tok
  t_GREATEST_BASE : Tok
  t_LEAST_BASE : Tok
  t_UNKNOWN_SIGN : Tok
structure Txt (K : PySem.W.Frag) (mg : Str → Option Value) (A : Adr) : Prop where
  m__law_coin : mg "_law_coin" = some (.ref A.g__law_coin)
  F__law_coin : Fun K "_law_coin" "_law_coin" S__law_coin A.g__law_coin A.f__law_coin
  b__law_coin : Binds K A.f__law_coin ["purse", "many"] []
  m__law_purse : mg "_law_purse" = some (.ref A.g__law_purse)
  F__law_purse : Fun K "_law_purse" "_law_purse" S__law_purse A.g__law_purse A.f__law_purse
  b__law_purse : Binds K A.f__law_purse ["script", "k"] []
  m__law_signs : mg "_law_signs" = some (.ref A.g__law_signs)
  F__law_signs : Fun K "_law_signs" "_law_signs" S__law_signs A.g__law_signs A.f__law_signs
  b__law_signs : Binds K A.f__law_signs ["digits"] []
  m_fits_places : mg "fits_places" = some (.ref A.g_fits_places)
  F_fits_places : Fun K "fits_places" "fits_places" S_fits_places A.g_fits_places A.f_fits_places
  b_fits_places : Binds K A.f_fits_places ["value"] []
  m_is_integer : mg "is_integer" = some (.ref A.g_is_integer)
  F_is_integer : Fun K "is_integer" "is_integer" S_is_integer A.g_is_integer A.f_is_integer
  b_is_integer : Binds K A.f_is_integer ["value"] []
  m_is_integer_within : mg "is_integer_within" = some (.ref A.g_is_integer_within)
  F_is_integer_within : Fun K "is_integer_within" "is_integer_within" S_is_integer_within A.g_is_integer_within A.f_is_integer_within
  b_is_integer_within : Binds K A.f_is_integer_within ["value", "least", "greatest"] []
  m_sign_of : mg "sign_of" = some (.ref A.g_sign_of)
  F_sign_of : Fun K "sign_of" "sign_of" S_sign_of A.g_sign_of A.f_sign_of
  b_sign_of : Binds K A.f_sign_of ["digit"] []
  m_text_of : mg "text_of" = some (.ref A.g_text_of)
  F_text_of : Fun K "text_of" "text_of" S_text_of A.g_text_of A.f_text_of
  b_text_of : Binds K A.f_text_of ["digits"] []
  m_format_code : mg "format_code" = some (.ref A.g_format_code)
  F_format_code : Fun K "format_code" "format_code" S_format_code A.g_format_code A.f_format_code
  b_format_code : Binds K A.f_format_code ["code"] []
  kb_format_code_2 : KwB K A.f_format_code ["code"] 0 ["code"] [] [(1, 0)]
  m_is_base : mg "is_base" = some (.ref A.g_is_base)
  F_is_base : Fun K "is_base" "is_base" S_is_base A.g_is_base A.f_is_base
  b_is_base : Binds K A.f_is_base ["value"] []
  m_check_base : mg "check_base" = some (.ref A.g_check_base)
  F_check_base : Fun K "check_base" "check_base" S_check_base A.g_check_base A.f_check_base
  b_check_base : Binds K A.f_check_base ["base"] []
  m_check_signs : mg "check_signs" = some (.ref A.g_check_signs)
  F_check_signs : Fun K "check_signs" "check_signs" S_check_signs A.g_check_signs A.f_check_signs
  b_check_signs : Binds K A.f_check_signs ["text", "signs"] []
  m_check_text : mg "check_text" = some (.ref A.g_check_text)
  F_check_text : Fun K "check_text" "check_text" S_check_text A.g_check_text A.f_check_text
  b_check_text : Binds K A.f_check_text ["text"] []
  m_digits_of : mg "digits_of" = some (.ref A.g_digits_of)
  F_digits_of : Fun K "digits_of" "digits_of" S_digits_of A.g_digits_of A.f_digits_of
  b_digits_of : Binds K A.f_digits_of ["text"] []
  m_parse_code : mg "parse_code" = some (.ref A.g_parse_code)
  F_parse_code : Fun K "parse_code" "parse_code" S_parse_code A.g_parse_code A.f_parse_code
  b_parse_code : Binds K A.f_parse_code ["text", "base"] []
  kb_parse_code_1 : KwB K A.f_parse_code ["text", "base"] 0 ["base", "text"] [] [(1, 1), (1, 0)]
  m_parse_partial : mg "parse_partial" = some (.ref A.g_parse_partial)
  F_parse_partial : Fun K "parse_partial" "parse_partial" S_parse_partial A.g_parse_partial A.f_parse_partial
  b_parse_partial : Binds K A.f_parse_partial ["text", "base"] []
  kb_parse_partial_0 : KwB K A.f_parse_partial ["text", "base"] 0 ["base", "text"] [] [(1, 1), (1, 0)]
  m__law_right : mg "_law_right" = some (.ref A.g__law_right)
  F__law_right : Fun K "_law_right" "_law_right" S__law_right A.g__law_right A.f__law_right
  b__law_right : Binds K A.f__law_right ["digits", "wide", "open_spots"] []
  m_law : mg "law" = some (.ref A.g_law)
  F_law : Fun K "law" "law" S_law A.g_law A.f_law
  b_law : Binds K A.f_law ["script"] []
  m_Rule : mg "Rule" = some (.ref A.C_Rule)
  fl_Rule__modulus : FldF ⟨K, mg⟩ "Rule" "_modulus"
  fl_Rule__rows : FldF ⟨K, mg⟩ "Rule" "_rows"
  fl_Rule__remainder : FldF ⟨K, mg⟩ "Rule" "_remainder"
  ci_Rule_MOST_PLACES : CIntF ⟨K, mg⟩ "Rule" "MOST_PLACES" 30
  isi : IsiT ⟨K, mg⟩ OWN ITAB
  c_DIGIT_SIGNS : mg "DIGIT_SIGNS" = some (.str "0123456789abcdefghijklmnopqrstuvwxyz" A.t_DIGIT_SIGNS)
  c_GREATEST_BASE : mg "GREATEST_BASE" = some (.int 36 A.t_GREATEST_BASE)
  c_LEAST_BASE : mg "LEAST_BASE" = some (.int 2 A.t_LEAST_BASE)
  c_UNKNOWN_SIGN : mg "UNKNOWN_SIGN" = some (.str "?" A.t_UNKNOWN_SIGN)
  z_abs : mg "abs" = none
  z_all : mg "all" = none
  z_bool : mg "bool" = none
  z_enumerate : mg "enumerate" = none
  z_int : mg "int" = none
  z_isinstance : mg "isinstance" = none
  z_len : mg "len" = none
  z_list : mg "list" = none
  z_max : mg "max" = none
  z_min : mg "min" = none
  z_range : mg "range" = none
  z_repr : mg "repr" = none
  z_str : mg "str" = none
  z_tuple : mg "tuple" = none

/-! ### each def -/
section
variable {P : Program} {w : World} {K : PySem.W.Frag} {mg : Str → Option Value} {base : Heap} {A : Adr}
theorem e__law_coin (T : Txt K mg A) : FnD P w ⟨K, mg⟩ base 1 A.g__law_coin A.f__law_coin ["purse", "many"] (bodyF 4 D__law_coin) := by
  have S := sc__law_coin
  refine def_go (P := P) (w := w) (G := ⟨K, mg⟩) (base := base) (N := ["purse", "many", "digit", "mixed"]) (ps := ["purse", "many"]) (k := 0) (d := D__law_coin) T.F__law_coin sc__law_coin fun cdv Ar outer s H E hr tk hp => ?_
  exact ⟨_,
  (ss_cons (ss_if (sb_cmp op_gt sop_gt (nomark _) (se_ix (se_var 0) se_int) se_int)
  (ss_cons (ss_set (i := 2) S.nd (se_mod (se_ix (se_var 0) se_int) (se_var 1)))
  (ss_cons (ss_asg (se_div (se_ix (se_var 0) se_int) (se_var 1)) (sg_ix (se_var 0) se_int))
  (ss_cons (ss_ret (se_var 2))
  ss_nil)))
  ss_nil)
  (ss_cons (ss_asg (se_add (se_ix (se_var 0) se_int) se_int) (sg_ix (se_var 0) se_int))
  (ss_cons (ss_set (i := 3) S.nd (se_mod (se_pow (se_add (se_ix (se_var 0) se_int) (se_mul se_int (se_ix (se_var 0) se_int))) se_int) (se_add (se_pow se_int se_int) se_int)))
  (ss_cons (ss_set (i := 3) S.nd (se_mod (se_pow (se_add (se_var 3) (se_mul se_int (se_ix (se_var 0) se_int))) se_int) (se_add (se_pow se_int se_int) se_int)))
  (ss_cons (ss_ret (se_mod (se_div (se_var 3) se_int) (se_var 1)))
  ss_nil)))))⟩
theorem d__law_coin (T : Txt K mg A) : FnD P w ⟨K, mg⟩ base L__law_coin A.g__law_coin A.f__law_coin ["purse", "many"] F__law_coin := FnD.self (e__law_coin T)
theorem p__law_coin (T : Txt K mg A) : FnP P w ⟨K, mg⟩ base L__law_coin A.g__law_coin 2 F__law_coin := (d__law_coin T).pos T.b__law_coin
theorem e__law_purse (T : Txt K mg A) : FnD P w ⟨K, mg⟩ base 1 A.g__law_purse A.f__law_purse ["script", "k"] (bodyF 3 D__law_purse) := by
  have S := sc__law_purse
  refine def_go (P := P) (w := w) (G := ⟨K, mg⟩) (base := base) (N := ["script", "k", "cell"]) (ps := ["script", "k"]) (k := 0) (d := D__law_purse) T.F__law_purse sc__law_purse fun cdv Ar outer s H E hr tk hp => ?_
  exact ⟨_,
  (ss_cons (ss_set (i := 2) S.nd (se_if (sb_cmp (op_ltA hr) sop_ltA (nomark _) (se_var 1) (se_callB call_len scall_len (by rfl) T.z_len PySem.boot_len (sa_cons (se_var 0) sa_nil))) (se_ix (se_var 0) (se_var 1)) se_int))
  (ss_cons (ss_ret (se_lstM (sa_cons (se_callB (call_max2 rfl) scall_max (by rfl) T.z_max PyProof.Rows.boot_max (sa_cons se_int (sa_cons (se_sub (se_callB call_abs scall_abs (by rfl) T.z_abs PyProof.Rows.boot_abs (sa_cons (se_var 2) sa_nil)) (se_pow se_int se_int)) sa_nil))) (sa_cons (se_add (se_add (se_mul (se_mod (se_var 2) (se_add (se_pow se_int se_int) se_int)) se_int) (se_mul se_int (se_var 1))) se_int) (sa_cons se_int sa_nil)))))
  ss_nil))⟩
theorem d__law_purse (T : Txt K mg A) : FnD P w ⟨K, mg⟩ base L__law_purse A.g__law_purse A.f__law_purse ["script", "k"] F__law_purse := FnD.self (e__law_purse T)
theorem p__law_purse (T : Txt K mg A) : FnP P w ⟨K, mg⟩ base L__law_purse A.g__law_purse 2 F__law_purse := (d__law_purse T).pos T.b__law_purse
theorem e__law_signs (T : Txt K mg A) : FnD P w ⟨K, mg⟩ base 1 A.g__law_signs A.f__law_signs ["digits"] (bodyF 3 D__law_signs) := by
  have S := sc__law_signs
  refine def_go (P := P) (w := w) (G := ⟨K, mg⟩) (base := base) (N := ["digits", "signs", "digit"]) (ps := ["digits"]) (k := 0) (d := D__law_signs) T.F__law_signs sc__law_signs fun cdv Ar outer s H E hr tk hp => ?_
  exact ⟨_,
  (ss_cons (ss_set (i := 1) S.nd se_str)
  (ss_cons (ss_ret (se_bm PySem.F.plainAttrs_str PySem.F.slot_str_join PySem.F.type_str_join mt_join sty_str smeth_join se_str (sa_cons (se_lcK kok_L (g := (gName 2)) (tt := tYes) (te := (tIf (tTest (tOp (fun x y H Q => y = .non ∧ Q (.bl (decide (x = .non))) H) (tVar 2) (tC .non))) (tC (.str "?")) (tOp rIxS (tVar 1) (tVar 2)))) (tv := [2]) rfl S.nd (si_seq (se_var 0)) (blkOk_by (own := [("digit", 2)]) (by kernel_rfl)) (fun s H C cl fp => (sg_name (i := 2) S.nd)) (fun s H C cl fp => sts_nil) (fun s H C cl fp => (se_if (sb_cmp op_isN sop_is (nomark _) (se_var 2) se_non) se_str (se_ixS (se_var 1) (se_var 2))))) sa_nil)))
  ss_nil))⟩
theorem d__law_signs (T : Txt K mg A) : FnD P w ⟨K, mg⟩ base L__law_signs A.g__law_signs A.f__law_signs ["digits"] F__law_signs := FnD.self (e__law_signs T)
theorem p__law_signs (T : Txt K mg A) : FnP P w ⟨K, mg⟩ base L__law_signs A.g__law_signs 1 F__law_signs := (d__law_signs T).pos T.b__law_signs
theorem e_fits_places (T : Txt K mg A) : FnD P w ⟨K, mg⟩ base 1 A.g_fits_places A.f_fits_places ["value"] (bodyF 1 D_fits_places) := by
  have S := sc_fits_places
  refine def_go (P := P) (w := w) (G := ⟨K, mg⟩) (base := base) (N := ["value"]) (ps := ["value"]) (k := 0) (d := D_fits_places) T.F_fits_places sc_fits_places fun cdv Ar outer s H E hr tk hp => ?_
  exact ⟨_,
  (ss_cons (ss_ret (se_and (se_callB call_isi (scall_isi T.isi) (by rfl) T.z_isinstance PyProof.Rows.boot_isinstance (sa_cons (se_var 0) (sa_cons (se_ty (by rfl) T.z_tuple PyProof.Rows.boot_tuple) sa_nil))) (se_one (se_chain op_le op_le sop_le sop_le se_int (se_callB call_len scall_len (by rfl) T.z_len PySem.boot_len (sa_cons (se_var 0) sa_nil)) (se_cint T.ci_Rule_MOST_PLACES T.m_Rule)))))
  ss_nil)⟩
theorem d_fits_places (T : Txt K mg A) : FnD P w ⟨K, mg⟩ base L_fits_places A.g_fits_places A.f_fits_places ["value"] F_fits_places := FnD.self (e_fits_places T)
theorem p_fits_places (T : Txt K mg A) : FnP P w ⟨K, mg⟩ base L_fits_places A.g_fits_places 1 F_fits_places := (d_fits_places T).pos T.b_fits_places
theorem e_is_integer (T : Txt K mg A) : FnD P w ⟨K, mg⟩ base 1 A.g_is_integer A.f_is_integer ["value"] (bodyF 1 D_is_integer) := by
  have S := sc_is_integer
  refine def_go (P := P) (w := w) (G := ⟨K, mg⟩) (base := base) (N := ["value"]) (ps := ["value"]) (k := 0) (d := D_is_integer) T.F_is_integer sc_is_integer fun cdv Ar outer s H E hr tk hp => ?_
  exact ⟨_,
  (ss_cons (ss_ret (se_and (se_callB call_isi (scall_isi T.isi) (by rfl) T.z_isinstance PyProof.Rows.boot_isinstance (sa_cons (se_var 0) (sa_cons (se_ty (by rfl) T.z_int PyProof.Rows.boot_int) sa_nil))) (se_one (se_not (se_callB call_isi (scall_isi T.isi) (by rfl) T.z_isinstance PyProof.Rows.boot_isinstance (sa_cons (se_var 0) (sa_cons (se_ty (by rfl) T.z_bool PyProof.Rows.boot_bool) sa_nil)))))))
  ss_nil)⟩
theorem d_is_integer (T : Txt K mg A) : FnD P w ⟨K, mg⟩ base L_is_integer A.g_is_integer A.f_is_integer ["value"] F_is_integer := FnD.self (e_is_integer T)
theorem p_is_integer (T : Txt K mg A) : FnP P w ⟨K, mg⟩ base L_is_integer A.g_is_integer 1 F_is_integer := (d_is_integer T).pos T.b_is_integer
theorem e_is_integer_within (T : Txt K mg A) : FnD P w ⟨K, mg⟩ base 2 A.g_is_integer_within A.f_is_integer_within ["value", "least", "greatest"] (bodyF 3 D_is_integer_within) := by
  have S := sc_is_integer_within
  refine def_go (P := P) (w := w) (G := ⟨K, mg⟩) (base := base) (N := ["value", "least", "greatest"]) (ps := ["value", "least", "greatest"]) (k := 1) (d := D_is_integer_within) T.F_is_integer_within sc_is_integer_within fun cdv Ar outer s H E hr tk hp => ?_
  exact ⟨_,
  (ss_cons (ss_ret (se_and (se_call (pa := ["value"]) (d_is_integer T) (hr.mono (by decide : L_is_integer ≤ _)) T.m_is_integer T.F_is_integer.kp T.b_is_integer tk (sa_cons (se_var 0) sa_nil) .nil fun _ _ => RepL.nil) (se_one (se_chain op_le op_le sop_le sop_le (se_var 1) (se_var 0) (se_var 2)))))
  ss_nil)⟩
theorem d_is_integer_within (T : Txt K mg A) : FnD P w ⟨K, mg⟩ base L_is_integer_within A.g_is_integer_within A.f_is_integer_within ["value", "least", "greatest"] F_is_integer_within := FnD.self (e_is_integer_within T)
theorem p_is_integer_within (T : Txt K mg A) : FnP P w ⟨K, mg⟩ base L_is_integer_within A.g_is_integer_within 3 F_is_integer_within := (d_is_integer_within T).pos T.b_is_integer_within
theorem e_sign_of (T : Txt K mg A) : FnD P w ⟨K, mg⟩ base 1 A.g_sign_of A.f_sign_of ["digit"] (bodyF 1 D_sign_of) := by
  have S := sc_sign_of
  refine def_go (P := P) (w := w) (G := ⟨K, mg⟩) (base := base) (N := ["digit"]) (ps := ["digit"]) (k := 0) (d := D_sign_of) T.F_sign_of sc_sign_of fun cdv Ar outer s H E hr tk hp => ?_
  exact ⟨_,
  (ss_cons (ss_ret (se_if (sb_cmp op_isN sop_is (nomark _) (se_var 0) se_non) (se_gs (by rfl) T.c_UNKNOWN_SIGN) (se_ixS (se_gs (by rfl) T.c_DIGIT_SIGNS) (se_var 0))))
  ss_nil)⟩
theorem d_sign_of (T : Txt K mg A) : FnD P w ⟨K, mg⟩ base L_sign_of A.g_sign_of A.f_sign_of ["digit"] F_sign_of := FnD.self (e_sign_of T)
theorem p_sign_of (T : Txt K mg A) : FnP P w ⟨K, mg⟩ base L_sign_of A.g_sign_of 1 F_sign_of := (d_sign_of T).pos T.b_sign_of
theorem e_text_of (T : Txt K mg A) : FnD P w ⟨K, mg⟩ base 2 A.g_text_of A.f_text_of ["digits"] (bodyF 2 D_text_of) := by
  have S := sc_text_of
  refine def_go (P := P) (w := w) (G := ⟨K, mg⟩) (base := base) (N := ["digits", "digit"]) (ps := ["digits"]) (k := 1) (d := D_text_of) T.F_text_of sc_text_of fun cdv Ar outer s H E hr tk hp => ?_
  exact ⟨_,
  (ss_cons (ss_ret (se_bm PySem.F.plainAttrs_str PySem.F.slot_str_join PySem.F.type_str_join mt_join sty_str smeth_join se_str (sa_cons (se_lcK kok_L (g := (gName 1)) (tt := tYes) (te := (tCallSD (SpF ⟨K, mg⟩ 1 F_sign_of) [] (fun s => WE WF s) (tCons (tVar 1) tNil))) (tv := [1]) rfl S.nd (si_seq (se_var 0)) (blkOk_by (own := [("digit", 1)]) (by kernel_rfl)) (fun s H C cl fp => (sg_name (i := 1) S.nd)) (fun s H C cl fp => sts_nil) (fun s H C cl fp => (se_call (pa := ["digit"]) (d_sign_of T) (by exact hr.mono (by decide : L_sign_of ≤ _)) T.m_sign_of T.F_sign_of.kp T.b_sign_of takes_no (sa_cons (se_var 1) sa_nil) .nil fun _ _ => RepL.nil))) sa_nil)))
  ss_nil)⟩
theorem d_text_of (T : Txt K mg A) : FnD P w ⟨K, mg⟩ base L_text_of A.g_text_of A.f_text_of ["digits"] F_text_of := FnD.self (e_text_of T)
theorem p_text_of (T : Txt K mg A) : FnP P w ⟨K, mg⟩ base L_text_of A.g_text_of 1 F_text_of := (d_text_of T).pos T.b_text_of
theorem e_format_code (T : Txt K mg A) : FnD P w ⟨K, mg⟩ base 3 A.g_format_code A.f_format_code ["code"] (bodyF 2 D_format_code) := by
  have S := sc_format_code
  refine def_go (P := P) (w := w) (G := ⟨K, mg⟩) (base := base) (N := ["code", "digit"]) (ps := ["code"]) (k := 2) (d := D_format_code) T.F_format_code sc_format_code fun cdv Ar outer s H E hr tk hp => ?_
  exact ⟨_,
  (ss_cons (ss_if (sb_w (sw_or (sb_not (sb_val (se_call (pa := ["value"]) (d_fits_places T) (hr.mono (by decide : L_fits_places ≤ _)) T.m_fits_places T.F_fits_places.kp T.b_fits_places tk (sa_cons (se_var 0) sa_nil) .nil fun _ _ => RepL.nil))) (sw_or1 (sb_not (sb_val (se_callB (cr_all rfl) scall_all (by rfl) T.z_all PyProof.Rows.boot_all (sa_cons (se_lcK kok_L (g := (gName 1)) (tt := tYes) (te := (tCallSD (SpF ⟨K, mg⟩ 3 F_is_integer_within) [] (fun s => WE WF s) (tCons (tVar 1) (tCons (tC (.int 0)) (tCons (tOp (rI0 fun i j => .int (i - j)) (tC (.int 36)) (tC (.int 1))) tNil))))) (tv := [1]) rfl S.nd (si_seq (se_var 0)) (blkOk_by (own := [("digit", 1)]) (by kernel_rfl)) (fun s H C cl fp => (sg_name (i := 1) S.nd)) (fun s H C cl fp => sts_nil) (fun s H C cl fp => (se_call (pa := ["value", "least", "greatest"]) (d_is_integer_within T) (by exact hr.mono (by decide : L_is_integer_within ≤ _)) T.m_is_integer_within T.F_is_integer_within.kp T.b_is_integer_within takes_no (sa_cons (se_var 1) (sa_cons se_int (sa_cons (se_sub (se_gi (by rfl) T.c_GREATEST_BASE) se_int) sa_nil))) .nil fun _ _ => RepL.nil))) sa_nil)))))))
  (ss_cons ss_never
  ss_nil)
  ss_nil)
  (ss_cons (ss_ret (se_call (pa := ["digits"]) (d_text_of T) (hr.mono (by decide : L_text_of ≤ _)) T.m_text_of T.F_text_of.kp T.b_text_of tk (sa_cons (se_var 0) sa_nil) .nil fun _ _ => RepL.nil))
  ss_nil))⟩
theorem d_format_code (T : Txt K mg A) : FnD P w ⟨K, mg⟩ base L_format_code A.g_format_code A.f_format_code ["code"] F_format_code := FnD.self (e_format_code T)
theorem p_format_code (T : Txt K mg A) : FnP P w ⟨K, mg⟩ base L_format_code A.g_format_code 1 F_format_code := (d_format_code T).pos T.b_format_code
theorem e_is_base (T : Txt K mg A) : FnD P w ⟨K, mg⟩ base 3 A.g_is_base A.f_is_base ["value"] (bodyF 1 D_is_base) := by
  have S := sc_is_base
  refine def_go (P := P) (w := w) (G := ⟨K, mg⟩) (base := base) (N := ["value"]) (ps := ["value"]) (k := 2) (d := D_is_base) T.F_is_base sc_is_base fun cdv Ar outer s H E hr tk hp => ?_
  exact ⟨_,
  (ss_cons (ss_ret (se_call (pa := ["value", "least", "greatest"]) (d_is_integer_within T) (hr.mono (by decide : L_is_integer_within ≤ _)) T.m_is_integer_within T.F_is_integer_within.kp T.b_is_integer_within tk (sa_cons (se_var 0) (sa_cons (se_gi (by rfl) T.c_LEAST_BASE) (sa_cons (se_gi (by rfl) T.c_GREATEST_BASE) sa_nil))) .nil fun _ _ => RepL.nil))
  ss_nil)⟩
theorem d_is_base (T : Txt K mg A) : FnD P w ⟨K, mg⟩ base L_is_base A.g_is_base A.f_is_base ["value"] F_is_base := FnD.self (e_is_base T)
theorem p_is_base (T : Txt K mg A) : FnP P w ⟨K, mg⟩ base L_is_base A.g_is_base 1 F_is_base := (d_is_base T).pos T.b_is_base
theorem e_check_base (T : Txt K mg A) : FnD P w ⟨K, mg⟩ base 4 A.g_check_base A.f_check_base ["base"] (bodyF 1 D_check_base) := by
  have S := sc_check_base
  refine def_go (P := P) (w := w) (G := ⟨K, mg⟩) (base := base) (N := ["base"]) (ps := ["base"]) (k := 3) (d := D_check_base) T.F_check_base sc_check_base fun cdv Ar outer s H E hr tk hp => ?_
  exact ⟨_,
  (ss_cons (ss_if (sb_not (sb_val (se_call (pa := ["value"]) (d_is_base T) (hr.mono (by decide : L_is_base ≤ _)) T.m_is_base T.F_is_base.kp T.b_is_base tk (sa_cons (se_var 0) sa_nil) .nil fun _ _ => RepL.nil)))
  (ss_cons ss_never
  ss_nil)
  ss_nil)
  ss_nil)⟩
theorem d_check_base (T : Txt K mg A) : FnD P w ⟨K, mg⟩ base L_check_base A.g_check_base A.f_check_base ["base"] F_check_base := FnD.self (e_check_base T)
theorem p_check_base (T : Txt K mg A) : FnP P w ⟨K, mg⟩ base L_check_base A.g_check_base 1 F_check_base := (d_check_base T).pos T.b_check_base
theorem e_check_signs (T : Txt K mg A) : FnD P w ⟨K, mg⟩ base 1 A.g_check_signs A.f_check_signs ["text", "signs"] (bodyF 4 D_check_signs) := by
  have S := sc_check_signs
  refine def_go (P := P) (w := w) (G := ⟨K, mg⟩) (base := base) (N := ["text", "signs", "index", "sign"]) (ps := ["text", "signs"]) (k := 0) (d := D_check_signs) T.F_check_signs sc_check_signs fun cdv Ar outer s H E hr tk hp => ?_
  exact ⟨_,
  (ss_cons (ss_if (sb_not (sb_tru (se_var 0)))
  (ss_cons ss_never
  ss_nil)
  ss_nil)
  (ss_cons (ss_for hp rfl (si_enumS (by rfl) T.z_enumerate (sa_cons (se_var 0) sa_nil)) (sg_tup rfl (sgs_cons (sg_name (i := 2) S.nd) (sgs_cons (sg_name (i := 3) S.nd) sgs_nil)))
  (ss_cons (ss_if (sb_w (sw_or (sb_cmp op_notInT sop_inT (by rfl) (se_var 3) (se_var 1)) (sw_or1 (sb_cmp (op_eqA hr.units) sop_eqD (nomark _) (se_var 2) (se_cint T.ci_Rule_MOST_PLACES T.m_Rule)))))
  (ss_cons ss_never
  ss_nil)
  ss_nil)
  ss_nil))
  ss_nil))⟩
theorem d_check_signs (T : Txt K mg A) : FnD P w ⟨K, mg⟩ base L_check_signs A.g_check_signs A.f_check_signs ["text", "signs"] F_check_signs := FnD.self (e_check_signs T)
theorem p_check_signs (T : Txt K mg A) : FnP P w ⟨K, mg⟩ base L_check_signs A.g_check_signs 2 F_check_signs := (d_check_signs T).pos T.b_check_signs
theorem e_check_text (T : Txt K mg A) : FnD P w ⟨K, mg⟩ base 1 A.g_check_text A.f_check_text ["text"] (bodyF 1 D_check_text) := by
  have S := sc_check_text
  refine def_go (P := P) (w := w) (G := ⟨K, mg⟩) (base := base) (N := ["text"]) (ps := ["text"]) (k := 0) (d := D_check_text) T.F_check_text sc_check_text fun cdv Ar outer s H E hr tk hp => ?_
  exact ⟨_,
  (ss_cons (ss_if (sb_not (sb_val (se_callB call_isi (scall_isi T.isi) (by rfl) T.z_isinstance PyProof.Rows.boot_isinstance (sa_cons (se_var 0) (sa_cons (se_ty (by rfl) T.z_str PyProof.Rows.boot_str) sa_nil)))))
  (ss_cons ss_never
  ss_nil)
  ss_nil)
  ss_nil)⟩
theorem d_check_text (T : Txt K mg A) : FnD P w ⟨K, mg⟩ base L_check_text A.g_check_text A.f_check_text ["text"] F_check_text := FnD.self (e_check_text T)
theorem p_check_text (T : Txt K mg A) : FnP P w ⟨K, mg⟩ base L_check_text A.g_check_text 1 F_check_text := (d_check_text T).pos T.b_check_text
theorem e_digits_of (T : Txt K mg A) : FnD P w ⟨K, mg⟩ base 1 A.g_digits_of A.f_digits_of ["text"] (bodyF 2 D_digits_of) := by
  have S := sc_digits_of
  refine def_go (P := P) (w := w) (G := ⟨K, mg⟩) (base := base) (N := ["text", "sign"]) (ps := ["text"]) (k := 0) (d := D_digits_of) T.F_digits_of sc_digits_of fun cdv Ar outer s H E hr tk hp => ?_
  exact ⟨_,
  (ss_cons (ss_ret (se_callTy call_tuple_of scall_tup (by rfl) T.z_tuple PyProof.Rows.boot_tuple (sa_cons (se_lcK kok_L (g := (gName 1)) (tt := tYes) (te := (tIf (tTest (tOp (rEqA K) (tVar 1) (tC (.str "?")))) (tC .non) (tBM K "str" rSidx (tC (.str "0123456789abcdefghijklmnopqrstuvwxyz")) (tCons (tVar 1) tNil)))) (tv := [1]) rfl S.nd (si_str (se_var 0)) (blkOk_by (own := [("sign", 1)]) (by kernel_rfl)) (fun s H C cl fp => (sg_name (i := 1) S.nd)) (fun s H C cl fp => sts_nil) (fun s H C cl fp => (se_if (sb_cmp (op_eqA (by exact hr.units)) sop_eqD (nomark _) (se_var 1) (se_gs (by rfl) T.c_UNKNOWN_SIGN)) se_non (se_bm PySem.F.plainAttrs_str PySem.F.slot_str_index PySem.F.type_str_index mt_sindex sty_str smeth_sidx (se_gs (by rfl) T.c_DIGIT_SIGNS) (sa_cons (se_var 1) sa_nil))))) sa_nil)))
  ss_nil)⟩
theorem d_digits_of (T : Txt K mg A) : FnD P w ⟨K, mg⟩ base L_digits_of A.g_digits_of A.f_digits_of ["text"] F_digits_of := FnD.self (e_digits_of T)
theorem p_digits_of (T : Txt K mg A) : FnP P w ⟨K, mg⟩ base L_digits_of A.g_digits_of 1 F_digits_of := (d_digits_of T).pos T.b_digits_of
theorem e_parse_code (T : Txt K mg A) : FnD P w ⟨K, mg⟩ base 5 A.g_parse_code A.f_parse_code ["text", "base"] (bodyF 2 D_parse_code) := by
  have S := sc_parse_code
  refine def_go (P := P) (w := w) (G := ⟨K, mg⟩) (base := base) (N := ["text", "base"]) (ps := ["text", "base"]) (k := 4) (d := D_parse_code) T.F_parse_code sc_parse_code fun cdv Ar outer s H E hr tk hp => ?_
  exact ⟨_,
  (ss_cons (ss_expr (se_call (pa := ["text"]) (d_check_text T) (hr.mono (by decide : L_check_text ≤ _)) T.m_check_text T.F_check_text.kp T.b_check_text tk (sa_cons (se_var 0) sa_nil) .nil fun _ _ => RepL.nil))
  (ss_cons (ss_expr (se_call (pa := ["base"]) (d_check_base T) (hr.mono (by decide : L_check_base ≤ _)) T.m_check_base T.F_check_base.kp T.b_check_base tk (sa_cons (se_var 1) sa_nil) .nil fun _ _ => RepL.nil))
  (ss_cons (ss_expr (se_call (pa := ["text", "signs"]) (d_check_signs T) (hr.mono (by decide : L_check_signs ≤ _)) T.m_check_signs T.F_check_signs.kp T.b_check_signs tk (sa_cons (se_var 0) (sa_cons (se_slS (se_gs (by rfl) T.c_DIGIT_SIGNS) so_none (so_some (se_var 1))) sa_nil)) .nil fun _ _ => RepL.nil))
  (ss_cons (ss_ret (se_call (pa := ["text"]) (d_digits_of T) (hr.mono (by decide : L_digits_of ≤ _)) T.m_digits_of T.F_digits_of.kp T.b_digits_of tk (sa_cons (se_var 0) sa_nil) .nil fun _ _ => RepL.nil))
  ss_nil))))⟩
theorem d_parse_code (T : Txt K mg A) : FnD P w ⟨K, mg⟩ base L_parse_code A.g_parse_code A.f_parse_code ["text", "base"] F_parse_code := FnD.self (e_parse_code T)
theorem p_parse_code (T : Txt K mg A) : FnP P w ⟨K, mg⟩ base L_parse_code A.g_parse_code 2 F_parse_code := (d_parse_code T).pos T.b_parse_code
theorem e_parse_partial (T : Txt K mg A) : FnD P w ⟨K, mg⟩ base 5 A.g_parse_partial A.f_parse_partial ["text", "base"] (bodyF 2 D_parse_partial) := by
  have S := sc_parse_partial
  refine def_go (P := P) (w := w) (G := ⟨K, mg⟩) (base := base) (N := ["text", "base"]) (ps := ["text", "base"]) (k := 4) (d := D_parse_partial) T.F_parse_partial sc_parse_partial fun cdv Ar outer s H E hr tk hp => ?_
  exact ⟨_,
  (ss_cons (ss_expr (se_call (pa := ["text"]) (d_check_text T) (hr.mono (by decide : L_check_text ≤ _)) T.m_check_text T.F_check_text.kp T.b_check_text tk (sa_cons (se_var 0) sa_nil) .nil fun _ _ => RepL.nil))
  (ss_cons (ss_expr (se_call (pa := ["base"]) (d_check_base T) (hr.mono (by decide : L_check_base ≤ _)) T.m_check_base T.F_check_base.kp T.b_check_base tk (sa_cons (se_var 1) sa_nil) .nil fun _ _ => RepL.nil))
  (ss_cons (ss_expr (se_call (pa := ["text", "signs"]) (d_check_signs T) (hr.mono (by decide : L_check_signs ≤ _)) T.m_check_signs T.F_check_signs.kp T.b_check_signs tk (sa_cons (se_var 0) (sa_cons (se_add (se_slS (se_gs (by rfl) T.c_DIGIT_SIGNS) so_none (so_some (se_var 1))) (se_gs (by rfl) T.c_UNKNOWN_SIGN)) sa_nil)) .nil fun _ _ => RepL.nil))
  (ss_cons (ss_ret (se_call (pa := ["text"]) (d_digits_of T) (hr.mono (by decide : L_digits_of ≤ _)) T.m_digits_of T.F_digits_of.kp T.b_digits_of tk (sa_cons (se_var 0) sa_nil) .nil fun _ _ => RepL.nil))
  ss_nil))))⟩
theorem d_parse_partial (T : Txt K mg A) : FnD P w ⟨K, mg⟩ base L_parse_partial A.g_parse_partial A.f_parse_partial ["text", "base"] F_parse_partial := FnD.self (e_parse_partial T)
theorem p_parse_partial (T : Txt K mg A) : FnP P w ⟨K, mg⟩ base L_parse_partial A.g_parse_partial 2 F_parse_partial := (d_parse_partial T).pos T.b_parse_partial
theorem e__law_right (T : Txt K mg A) : FnDG P w ⟨K, mg⟩ base 6 A.g__law_right A.f__law_right ["digits", "wide", "open_spots"] (bodyF 9 D__law_right) := by
  have S := sc__law_right
  refine defG_ok (P := P) (w := w) (G := ⟨K, mg⟩) (base := base) (N := ["digits", "wide", "open_spots", "page", "most", "found", "some", "spot", "digit"]) (ps := ["digits", "wide", "open_spots"]) (k := 5) (d := D__law_right) T.F__law_right sc__law_right fun cdv Ar outer s H E hq tk hp => ?_
  have hr := hq.rm
  have hg := hq.gu
  exact ⟨_,
  (ss_cons (ss_set (i := 3) S.nd (se_call (pa := ["digits"]) (d__law_signs T) (hr.mono (by decide : L__law_signs ≤ _)) T.m__law_signs T.F__law_signs.kp T.b__law_signs tk (sa_cons (se_var 0) sa_nil) .nil fun _ _ => RepL.nil))
  (ss_cons (ss_if (sb_cmp (op_neA hr.units) sop_neD (nomark _) (se_callB (call_reprD hg hr.units) scall_repr (by rfl) T.z_repr PyProof.Rows.boot_repr (sa_cons (se_lst (sa_cons (se_call (pa := ["code"]) (d_format_code T) (hr.mono (by decide : L_format_code ≤ _)) T.m_format_code T.F_format_code.kp T.b_format_code tk (sa_cons (se_var 0) sa_nil) .nil fun _ _ => RepL.nil) (sa_cons (se_callK0 (pa := ["code"]) (ks := ["code"]) (ix := [(1, 0)]) (d_format_code T) (hr.mono (by decide : L_format_code ≤ _)) T.m_format_code T.F_format_code.kp T.kb_format_code_2 tk  (sk_cons (se_var 0) sk_nil) .nil fun _ _ => RepL.nil) sa_nil))) sa_nil)) (se_callB (call_reprD hg hr.units) scall_repr (by rfl) T.z_repr PyProof.Rows.boot_repr (sa_cons (se_lst (sa_cons (se_var 3) (sa_cons (se_var 3) sa_nil))) sa_nil)))
  (ss_cons (ss_ret se_bl)
  ss_nil)
  ss_nil)
  (ss_cons (ss_for hp rfl (si_seq (se_lst (sa_cons (se_var 1) (sa_cons se_int (sa_cons (se_callB (call_min2 rfl) scall_min (by rfl) T.z_min PyProof.Rows.boot_min (sa_cons se_int (sa_cons (se_add (se_var 1) se_int) sa_nil))) sa_nil))))) (sg_name (i := 4) S.nd)
  (ss_cons (ss_set (i := 5) S.nd (se_lst (sa_cons (se_call (pa := ["text", "base"]) (d_parse_code T) (hr.mono (by decide : L_parse_code ≤ _)) T.m_parse_code T.F_parse_code.kp T.b_parse_code tk (sa_cons (se_var 3) (sa_cons (se_var 4) sa_nil)) .nil fun _ _ => RepL.nil) (sa_cons (se_callK0 (pa := ["text", "base"]) (ks := ["base", "text"]) (ix := [(1, 1), (1, 0)]) (d_parse_code T) (hr.mono (by decide : L_parse_code ≤ _)) T.m_parse_code T.F_parse_code.kp T.kb_parse_code_1 tk  (sk_cons (se_var 4) (sk_cons (se_var 3) sk_nil)) .nil fun _ _ => RepL.nil) (sa_cons (se_call (pa := ["text", "base"]) (d_parse_partial T) (hr.mono (by decide : L_parse_partial ≤ _)) T.m_parse_partial T.F_parse_partial.kp T.b_parse_partial tk (sa_cons (se_var 3) (sa_cons (se_var 4) sa_nil)) .nil fun _ _ => RepL.nil) sa_nil)))))
  (ss_cons (ss_if (sb_cmp (op_neA hr.units) sop_neD (nomark _) (se_callB (call_reprD hg hr.units) scall_repr (by rfl) T.z_repr PyProof.Rows.boot_repr (sa_cons (se_var 5) sa_nil)) (se_callB (call_reprD hg hr.units) scall_repr (by rfl) T.z_repr PyProof.Rows.boot_repr (sa_cons (se_mul (se_lst (sa_cons (se_var 0) sa_nil)) se_int) sa_nil)))
  (ss_cons (ss_ret se_bl)
  ss_nil)
  ss_nil)
  ss_nil)))
  (ss_cons (ss_set (i := 6) S.nd (se_callTy call_tuple_of scall_tup (by rfl) T.z_tuple PyProof.Rows.boot_tuple (sa_cons (se_lcK kok_L (g := (gTup K 2 (gCons (gName 7) (gCons (gName 8) gNil)))) (tt := tYes) (te := (tIf (tTest (tOp (rIn K false) (tVar 7) (tVar 2))) (tC .non) (tVar 8))) (tv := [7, 8]) rfl S.nd (si_enum2 (by rfl) T.z_enumerate (sa_cons (se_var 0) sa_nil)) (blkOk_by (own := [("spot", 7), ("digit", 8)]) (by kernel_rfl)) (fun s H C cl fp => (sg_tup rfl (sgs_cons (sg_name (i := 7) S.nd) (sgs_cons (sg_name (i := 8) S.nd) sgs_nil)))) (fun s H C cl fp => sts_nil) (fun s H C cl fp => (se_if (sb_cmp op_in_seq sop_in (by rfl) (se_var 7) (se_var 2)) se_non (se_var 8)))) sa_nil)))
  (ss_cons (ss_set (i := 5) S.nd (se_lst (sa_cons (se_call (pa := ["text", "base"]) (d_parse_partial T) (hr.mono (by decide : L_parse_partial ≤ _)) T.m_parse_partial T.F_parse_partial.kp T.b_parse_partial tk (sa_cons (se_call (pa := ["digits"]) (d__law_signs T) (hr.mono (by decide : L__law_signs ≤ _)) T.m__law_signs T.F__law_signs.kp T.b__law_signs tk (sa_cons (se_var 6) sa_nil) .nil fun _ _ => RepL.nil) (sa_cons (se_var 1) sa_nil)) .nil fun _ _ => RepL.nil) (sa_cons (se_callK0 (pa := ["text", "base"]) (ks := ["base", "text"]) (ix := [(1, 1), (1, 0)]) (d_parse_partial T) (hr.mono (by decide : L_parse_partial ≤ _)) T.m_parse_partial T.F_parse_partial.kp T.kb_parse_partial_0 tk  (sk_cons (se_var 1) (sk_cons (se_call (pa := ["digits"]) (d__law_signs T) (hr.mono (by decide : L__law_signs ≤ _)) T.m__law_signs T.F__law_signs.kp T.b__law_signs tk (sa_cons (se_var 6) sa_nil) .nil fun _ _ => RepL.nil) sk_nil)) .nil fun _ _ => RepL.nil) sa_nil))))
  (ss_cons (ss_ret (se_cmp (op_eqA hr.units) sop_eqD (nomark _) (se_callB (call_reprD hg hr.units) scall_repr (by rfl) T.z_repr PyProof.Rows.boot_repr (sa_cons (se_var 5) sa_nil)) (se_callB (call_reprD hg hr.units) scall_repr (by rfl) T.z_repr PyProof.Rows.boot_repr (sa_cons (se_lst (sa_cons (se_var 6) (sa_cons (se_var 6) sa_nil))) sa_nil))))
  ss_nil))))))⟩
theorem d__law_right (T : Txt K mg A) : FnDG P w ⟨K, mg⟩ base L__law_right A.g__law_right A.f__law_right ["digits", "wide", "open_spots"] F__law_right := FnDG.self (e__law_right T)
theorem e_law (T : Txt K mg A) : FnDG P w ⟨K, mg⟩ base 7 A.g_law A.f_law ["script"] (bodyF 9 D_law) := by
  have S := sc_law
  refine defG_ok (P := P) (w := w) (G := ⟨K, mg⟩) (base := base) (N := ["script", "k", "purse", "wide", "size", "digits", "spots", "turn", "spot"]) (ps := ["script"]) (k := 6) (d := D_law) T.F_law sc_law fun cdv Ar outer s H E hq tk hp => ?_
  have hr := hq.rm
  have hg := hq.gu
  exact ⟨_,
  (ss_cons (ss_for hp rfl (si_range1 (by rfl) T.z_range (sa_cons (se_callB (call_max2 rfl) scall_max (by rfl) T.z_max PyProof.Rows.boot_max (sa_cons se_int (sa_cons (se_callB (call_min2 rfl) scall_min (by rfl) T.z_min PyProof.Rows.boot_min (sa_cons se_int (sa_cons (se_callB call_len scall_len (by rfl) T.z_len PySem.boot_len (sa_cons (se_var 0) sa_nil)) sa_nil))) sa_nil))) sa_nil)) (sg_name (i := 1) S.nd)
  (ss_cons (ss_set (i := 2) S.nd (se_call (pa := ["script", "k"]) (d__law_purse T) (hr.mono (by decide : L__law_purse ≤ _)) T.m__law_purse T.F__law_purse.kp T.b__law_purse tk (sa_cons (se_var 0) (sa_cons (se_var 1) sa_nil)) .nil fun _ _ => RepL.nil))
  (ss_cons (ss_for hp rfl (si_seq (se_lst (sa_cons se_int (sa_cons se_int (sa_cons se_int (sa_cons se_int (sa_cons (se_add se_int (se_call (pa := ["purse", "many"]) (d__law_coin T) (hr.mono (by decide : L__law_coin ≤ _)) T.m__law_coin T.F__law_coin.kp T.b__law_coin tk (sa_cons (se_var 2) (sa_cons se_int sa_nil)) .nil fun _ _ => RepL.nil)) (sa_cons (se_add se_int (se_call (pa := ["purse", "many"]) (d__law_coin T) (hr.mono (by decide : L__law_coin ≤ _)) T.m__law_coin T.F__law_coin.kp T.b__law_coin tk (sa_cons (se_var 2) (sa_cons se_int sa_nil)) .nil fun _ _ => RepL.nil)) sa_nil)))))))) (sg_name (i := 3) S.nd)
  (ss_cons (ss_set (i := 4) S.nd (se_ix (se_lst (sa_cons (se_add se_int (se_call (pa := ["purse", "many"]) (d__law_coin T) (hr.mono (by decide : L__law_coin ≤ _)) T.m__law_coin T.F__law_coin.kp T.b__law_coin tk (sa_cons (se_var 2) (sa_cons se_int sa_nil)) .nil fun _ _ => RepL.nil)) (sa_cons (se_add se_int (se_call (pa := ["purse", "many"]) (d__law_coin T) (hr.mono (by decide : L__law_coin ≤ _)) T.m__law_coin T.F__law_coin.kp T.b__law_coin tk (sa_cons (se_var 2) (sa_cons se_int sa_nil)) .nil fun _ _ => RepL.nil)) (sa_cons se_int sa_nil)))) (se_call (pa := ["purse", "many"]) (d__law_coin T) (hr.mono (by decide : L__law_coin ≤ _)) T.m__law_coin T.F__law_coin.kp T.b__law_coin tk (sa_cons (se_var 2) (sa_cons se_int sa_nil)) .nil fun _ _ => RepL.nil)))
  (ss_cons (ss_set (i := 5) S.nd (se_callTy call_tuple_of scall_tup (by rfl) T.z_tuple PyProof.Rows.boot_tuple (sa_cons (se_lcK kok_L (g := (gName 8)) (tt := tYes) (te := (tCallSD (SpF ⟨K, mg⟩ 2 F__law_coin) [] (fun s => WE WF s) (tCons (tVar 2) (tCons (tVar 3) tNil)))) (tv := [8]) rfl S.nd (si_range1 (by rfl) T.z_range (sa_cons (se_var 4) sa_nil)) (blkOk_by (own := [("spot", 8)]) (by kernel_rfl)) (fun s H C cl fp => (sg_name (i := 8) S.nd)) (fun s H C cl fp => sts_nil) (fun s H C cl fp => (se_call (pa := ["purse", "many"]) (d__law_coin T) (by exact hr.mono (by decide : L__law_coin ≤ _)) T.m__law_coin T.F__law_coin.kp T.b__law_coin takes_no (sa_cons (se_var 2) (sa_cons (se_var 3) sa_nil)) .nil fun _ _ => RepL.nil))) sa_nil)))
  (ss_cons (ss_setLcK (i := 6) kok_L (g := (gName 7)) (tt := tYes) (te := (tCallSD (SpF ⟨K, mg⟩ 2 F__law_coin) [] (fun s => WE WF s) (tCons (tVar 2) (tCons (tVar 4) tNil)))) (tv := [7]) rfl S.nd (by rfl) (si_range1 (by rfl) T.z_range (sa_cons (se_call (pa := ["purse", "many"]) (d__law_coin T) (hr.mono (by decide : L__law_coin ≤ _)) T.m__law_coin T.F__law_coin.kp T.b__law_coin tk (sa_cons (se_var 2) (sa_cons se_int sa_nil)) .nil fun _ _ => RepL.nil) sa_nil)) (blkOk_by (own := [("turn", 7)]) (by kernel_rfl)) (fun s H C cl fp => (sg_name (i := 7) S.nd)) (fun s H C cl fp => sts_nil) (fun s H C cl fp => (se_call (pa := ["purse", "many"]) (d__law_coin T) (by exact hr.mono (by decide : L__law_coin ≤ _)) T.m__law_coin T.F__law_coin.kp T.b__law_coin takes_no (sa_cons (se_var 2) (sa_cons (se_var 4) sa_nil)) .nil fun _ _ => RepL.nil)))
  (ss_cons (ss_if (sb_w (sw_or (sb_not (sb_val (se_callG (pa := ["digits", "wide", "open_spots"]) (d__law_right T) ⟨(hr.mono (by decide : L__law_right ≤ _)), hg⟩ T.m__law_right T.F__law_right.kp T.b__law_right tk (sa_cons (se_var 5) (sa_cons (se_var 3) (sa_cons (se_var 6) sa_nil))) .nil fun _ _ => RepL.nil))) (sw_or1 (sb_not (sb_val (se_callG (pa := ["digits", "wide", "open_spots"]) (d__law_right T) ⟨(hr.mono (by decide : L__law_right ≤ _)), hg⟩ T.m__law_right T.F__law_right.kp T.b__law_right tk (sa_cons (se_rev (se_var 5)) (sa_cons (se_var 3) (sa_cons (se_listRgV (by rfl) (by rfl) T.z_list (by rfl) T.z_range (se_var 4)) sa_nil))) .nil fun _ _ => RepL.nil))))))
  (ss_cons (ss_ret se_bl)
  ss_nil)
  ss_nil)
  ss_nil)))))
  ss_nil)))
  (ss_cons (ss_if (sb_w (sw_or (sb_not (sb_val (se_callG (pa := ["digits", "wide", "open_spots"]) (d__law_right T) ⟨(hr.mono (by decide : L__law_right ≤ _)), hg⟩ T.m__law_right T.F__law_right.kp T.b__law_right tk (sa_cons (se_tupRgV (by rfl) (by rfl) T.z_tuple (by rfl) T.z_range se_int) (sa_cons se_int (sa_cons (se_lst (sa_cons se_int (sa_cons se_int sa_nil))) sa_nil))) .nil fun _ _ => RepL.nil))) (sw_or1 (sb_not (sb_val (se_callG (pa := ["digits", "wide", "open_spots"]) (d__law_right T) ⟨(hr.mono (by decide : L__law_right ≤ _)), hg⟩ T.m__law_right T.F__law_right.kp T.b__law_right tk (sa_cons (se_tupRg2V (by rfl) (by rfl) T.z_tuple (by rfl) T.z_range se_int se_int) (sa_cons se_int (sa_cons (se_lst sa_nil) sa_nil))) .nil fun _ _ => RepL.nil))))))
  (ss_cons (ss_ret se_bl)
  ss_nil)
  ss_nil)
  (ss_cons (ss_ret (se_cmp (op_eqA hr.units) sop_eqD (nomark _) (se_lst (sa_cons (se_call (pa := ["code"]) (d_format_code T) (hr.mono (by decide : L_format_code ≤ _)) T.m_format_code T.F_format_code.kp T.b_format_code tk (sa_cons (se_tup (sa_cons se_int (sa_cons se_int (sa_cons se_int sa_nil)))) sa_nil) .nil fun _ _ => RepL.nil) (sa_cons (se_call (pa := ["text", "base"]) (d_parse_partial T) (hr.mono (by decide : L_parse_partial ≤ _)) T.m_parse_partial T.F_parse_partial.kp T.b_parse_partial tk (sa_cons se_str (sa_cons se_int sa_nil)) .nil fun _ _ => RepL.nil) sa_nil))) (se_lst (sa_cons se_str (sa_cons (se_tup (sa_cons se_int (sa_cons se_non (sa_cons se_int (sa_cons se_non sa_nil))))) sa_nil)))))
  ss_nil)))⟩
theorem d_law (T : Txt K mg A) : FnDG P w ⟨K, mg⟩ base L_law A.g_law A.f_law ["script"] F_law := FnDG.self (e_law T)
end

end K53
end CD

set_option Elab.async false
set_option linter.all false
set_option maxRecDepth 100000
set_option maxHeartbeats 4000000
namespace CD
namespace K53
open PySem L2
theorem wide200 {m : Int} (h : 0 ≤ m) (h2 : m ≤ 1000000000000000000000000000000000000000000000000000000000000) : m.natAbs < 2 ^ 200 := Nat.lt_of_le_of_lt (show m.natAbs ≤ 1000000000000000000000000000000000000000000000000000000000000 by omega) (by decide)
/-! ### the cup -/
structure Cup (st : Store) (l : Nat) (b c : Int) : Prop where
  at_ : ∃ a : Int, 0 ≤ a ∧ st[l]? = some (.lst [.int a, .int b, .int c])
  b0 : 0 ≤ b ∧ b < 10 ^ 38
  c0 : 0 ≤ c ∧ c ≤ 100000
theorem sip_ok {st : Store} {l : Nat} {b c m : Int} (C : Cup st l b c) (hc : c ≤ 99999) (h1 : 1 ≤ m) (h2 : m ≤ 1000000000000000000000000000000000000000000000000000000000000) :
    ∃ (v : Int) (c' : Int) (x : Cell), F__law_coin [.loc l, .int m] st = .ok (.int v) (st.set l x) ∧ 0 ≤ v ∧ v < m ∧ c' ≤ c + 1 ∧ Cup (st.set l x) l b c' := by
  obtain ⟨⟨a, ha, h⟩, hb, hc0⟩ := C
  have hm : (0 : Int) < m := by omega
  have hw : CDivW a m := wide_div (b := 200) hm (wide200 (by omega) h2) (by decide) (by decide)
  unfold F__law_coin
  by_cases hp : 0 < a
  · refine ⟨a % m, c, .lst [.int (a / m), .int b, .int c], bF_rt ?_, Int.emod_nonneg a (by omega), Int.emod_lt_of_pos a hm, by omega, ⟨a / m, Int.ediv_nonneg ha (by omega), set_get h⟩, hb, hc0⟩
    unfold D__law_coin
    refine (sq_if (t := true) (st1 := st) ((dB_ok (gt_ok (ixl0 (var_ok rfl) h) con_ok)).trans (by rw [decide_eq_true hp]))).trans ?_
    rw [if_pos rfl]
    refine sq_assoc.trans ((set_go (mod_ok (ixl0 (var_ok rfl) h) (var_ok rfl) hm)).trans (sq_assoc.trans ((asg_go (div_ok (ixl0 (var_ok rfl) h) (var_ok rfl) hw) (gixl0 (var_ok rfl) h)).trans (sq_assoc.trans (ret_go (var_ok rfl))))))
  · have h3 : (st.set l (.lst [.int a, .int b, .int (c + 1)]))[l]? = some (.lst [.int a, .int b, .int (c + 1)]) := set_get h
    have m1 : (0 : Int) < 10 ^ (41 : Int).toNat + 109 := by decide
    have m2 : (0 : Int) < 10 ^ (40 : Int).toNat + 121 := by decide
    have w10 : ∀ k : Int, 0 ≤ k → k ≤ 100 → CPowW 10 k := fun k h0 h1 => ⟨h0, h1, by show (10 : Nat) < 2 ^ 1000; exact Nat.lt_of_lt_of_le (show (10 : Nat) < 2 ^ 4 by decide) (Nat.pow_le_pow_right (by decide) (by decide))⟩
    have small : ∀ u : Int, 0 ≤ u → u < 2 ^ 200 → u.natAbs < 2 ^ 1000 := fun u h0 h1 => Nat.lt_of_lt_of_le (show u.natAbs < 2 ^ 200 by omega) (Nat.pow_le_pow_right (by decide) (by decide))
    let x := b + 472882027 * (c + 1)
    have hx : 0 ≤ x ∧ x < 2 ^ 200 := by constructor <;> (show _ ; simp only [x]; omega)
    let y := x ^ (3 : Int).toNat % (10 ^ (41 : Int).toNat + 109)
    have hy : 0 ≤ y ∧ y < 10 ^ 42 := ⟨Int.emod_nonneg _ (by omega), Int.lt_trans (Int.emod_lt_of_pos _ m1) (by decide)⟩
    have hy2 : 0 ≤ y + 373587883 * (c + 1) ∧ y + 373587883 * (c + 1) < 2 ^ 200 := by omega
    have mu : ∀ u : Int, 0 ≤ u → u ≤ 1000000000 → CMulX u (c + 1) := fun u h0 h1 => .inr (.inl ⟨by omega, by omega⟩)
    let z := (y + 373587883 * (c + 1)) ^ (3 : Int).toNat % (10 ^ (40 : Int).toNat + 121)
    have hw5 : CDivW z 99989 := wide_div (b := 20) (by decide) (by decide) (by decide) (by decide)
    refine ⟨z / 99989 % m, c + 1, .lst [.int a, .int b, .int (c + 1)], bF_rt ?_, Int.emod_nonneg _ (by omega), Int.emod_lt_of_pos _ hm, by omega, ⟨a, ha, h3⟩, hb, by omega⟩
    unfold D__law_coin
    refine (sq_if (t := false) (st1 := st) ((dB_ok (gt_ok (ixl0 (var_ok rfl) h) con_ok)).trans (by rw [decide_eq_false hp]))).trans ?_
    rw [if_neg (by decide)]
    refine sq_skip.trans ((asg_go (add_ok (ixl2 (var_ok rfl) h) con_ok) (gixl2 (var_ok rfl) h)).trans ?_)
    refine (set_go (mod_ok (pow_ok (add_ok (ixl1 (var_ok rfl) h3) (mulx_ok con_ok (ixl2 (var_ok rfl) h3) (mu _ (by decide) (by decide)))) con_ok ⟨by decide, by decide, small x hx.1 hx.2⟩) (add_ok (pow_ok con_ok con_ok (w10 41 (by decide) (by decide))) con_ok) m1)).trans ?_
    refine (set_go (mod_ok (pow_ok (add_ok (var_ok rfl) (mulx_ok con_ok (ixl2 (var_ok rfl) h3) (mu _ (by decide) (by decide)))) con_ok ⟨by decide, by decide, small _ hy2.1 hy2.2⟩) (add_ok (pow_ok con_ok con_ok (w10 40 (by decide) (by decide))) con_ok) m2)).trans ?_
    exact ret_go (mod_ok (div_ok (var_ok rfl) con_ok hw5) (var_ok rfl) hm)
theorem cup_ok {ns : List Int} (hn : ns.length ≤ 63) {k : Nat} (hk : k ≤ 1000) (st : Store) : ∃ x b, F__law_purse [.rls (ns.map .int), .int k] st = .ok (.loc st.length) (st ++ [x]) ∧ Cup (st ++ [x]) st.length b 0 := by
  let cell : Int := (ns[k]?).getD 0
  have m1 : (0 : Int) < 10 ^ (36 : Int).toNat + 67 := by decide
  have w10 : ∀ k : Int, 0 ≤ k → k ≤ 100 → CPowW 10 k := fun k h0 h1 => ⟨h0, h1, by show (10 : Nat) < 2 ^ 1000; exact Nat.lt_of_lt_of_le (show (10 : Nat) < 2 ^ 4 by decide) (Nat.pow_le_pow_right (by decide) (by decide))⟩
  have hq : 0 ≤ cell % (10 ^ (36 : Int).toNat + 67) ∧ cell % (10 ^ (36 : Int).toNat + 67) < 2000000000000000000000000000000000000 := ⟨Int.emod_nonneg _ (Int.ne_of_gt m1), Int.lt_trans (Int.emod_lt_of_pos _ m1) (by decide)⟩
  generalize hQ : cell % (10 ^ (36 : Int).toNat + 67) = Q at hq
  refine ⟨.lst [.int (max 0 ((cell.natAbs : Int) - 10 ^ (18 : Int).toNat)), .int (Q * 13 + 6007 * (k : Int) + 5), .int 0], Q * 13 + 6007 * (k : Int) + 5, ?_, ⟨_, Int.le_max_left 0 _, List.getElem?_concat_length⟩, ⟨by omega, by omega⟩, by decide⟩
  unfold F__law_purse
  refine bF_rt ?_
  unfold D__law_purse
  refine (set_go (p := .int cell) (st1 := st) ?_).trans (ret_go (lstM_ok (st1 := st) (args1 (callD_ok (args1 con_ok (args1 (sub_ok (callD_ok (args1 (var_ok rfl) args0) ev_abs) (pow_ok con_ok con_ok (w10 18 (by decide) (by decide)))) args0)) ev_max) (args1 (add_ok (add_ok (mulx_ok (a := Q) (by rw [← hQ]; exact mod_ok (var_ok rfl) (add_ok (pow_ok con_ok con_ok (w10 36 (by decide) (by decide))) con_ok) m1) con_ok (.inr (.inl ⟨by decide, by decide⟩))) (mulx_ok con_ok (var_ok rfl) (.inr (.inl ⟨by omega, by omega⟩)))) con_ok) (args1 con_ok args0))) (by simp)))
  have hl : callD lenF (dCons (dV 0) dNil) [some (PV.rls (ns.map .int)), some (.int k), none] st = .ok (.int ns.length) st := by
    refine (callD_ok (args1 (var_ok rfl) args0) ev_len_rls).trans ?_
    rw [List.length_map]
  rw [ev_ifD]
  rw [show List.map some [PV.rls (ns.map .int), .int k] ++ List.replicate (3 - [PV.rls (ns.map .int), .int k].length) none = [some (PV.rls (ns.map .int)), some (.int k), none] from rfl]
  rw [dB_ok (lt_ok (var_ok rfl) hl), Res.bind_ok]
  by_cases hlt : (k : Int) < ns.length
  · rw [decide_eq_true hlt, if_pos rfl, ev_2, var_ok (p := .rls (ns.map .int)) rfl, Res.bind_ok, var_ok (p := .int k) rfl, Res.bind_ok]
    refine ix_seq (xs := ns.map .int) rfl (atI_nat' (k := k) ?_)
    have hk2 : k < ns.length := by omega
    simp only [cell]
    rw [List.getElem?_map, List.getElem?_eq_getElem hk2]; rfl
  · rw [decide_eq_false hlt, if_neg (by decide)]
    have : ns[k]? = none := List.getElem?_eq_none (by omega)
    simp only [cell]
    rw [this]; rfl
theorem sip_ev {env : PEnv} {st st1 : Store} {i l : Nat} {m v : Int} (h : env[i]? = some (some (.loc l))) (g : F__law_coin [.loc l, .int m] st = .ok (.int v) st1) : callF 2 F__law_coin (dCons (dV i) (dCons (dC (.int m)) dNil)) [] env st = .ok (.int v) st1 :=
  callF_ok (args1 (var_ok h) (args1 con_ok args0)) rfl g
theorem addc_ev {env : PEnv} {st st1 : Store} {k v : Int} {d : DE} (h : d env st = .ok (.int v) st1) : d2 addD (dC (.int k)) d env st = .ok (.int (k + v)) st1 := by
  rw [ev_2, ev_C, Res.bind_ok, h]; rfl
theorem cup_flat {st : Store} (F : Flat st) {l : Nat} {b c : Int} {x : Cell} (C : Cup (st.set l x) l b c) : Flat (st.set l x) := by
  obtain ⟨⟨a, _, h⟩, _, _⟩ := C
  have hl : l < st.length := by
    have := lt_of_get h
    simpa using this
  rw [List.getElem?_set_self hl] at h
  cases h
  exact F.set (flat_ints [a, b, c]) l
theorem cup_flat0 {st : Store} (F : Flat st) {b c : Int} {x : Cell} (C : Cup (st ++ [x]) st.length b c) : Flat (st ++ [x]) := by
  obtain ⟨⟨a, _, h⟩, _, _⟩ := C
  rw [List.getElem?_concat_length] at h
  cases h
  exact F.app (flat_ints [a, b, c])
/-- the cup at l, at most n digits drawn -/
def DeckS (l n : Nat) (st : Store) : Prop := ∃ b c, Cup st l b c ∧ c ≤ n ∧ Below st
theorem DeckS.lt {l n : Nat} {st : Store} (D : DeckS l n st) : l < st.length := let ⟨_, _, C, _⟩ := D; let ⟨_, _, h⟩ := C.at_; lt_of_get h
theorem DeckS.below {l n : Nat} {st : Store} (D : DeckS l n st) : st.all (belowC st.length) = true := let ⟨_, _, _, _, B⟩ := D; B
theorem DeckS.more {l n n' : Nat} {st : Store} (D : DeckS l n st) (h : n ≤ n') : DeckS l n' st := let ⟨b, c, C, h1, B⟩ := D; ⟨b, c, C, by omega, B⟩
theorem DeckS.grow {l n : Nat} {st : Store} (D : DeckS l n st) {cs : Store} (h : cs.all (belowC (st ++ cs).length) = true) : DeckS l n (st ++ cs) := by
  obtain ⟨b, c, ⟨⟨a, a0, h1⟩, hb, hc⟩, h2, B⟩ := D
  refine ⟨b, c, ⟨⟨a, a0, by rw [List.getElem?_append_left (lt_of_get h1)]; exact h1⟩, hb, hc⟩, h2, ?_⟩
  show (st ++ cs).all _ = true
  rw [List.all_append, Bool.and_eq_true]
  exact ⟨List.all_eq_true.mpr fun c hc => belowC_mono (by simp) (List.all_eq_true.mp B c hc), h⟩
theorem draw_cs {l n : Nat} {m : Int} {st : Store} (D : DeckS l n st) (cs : Store) (hn : n ≤ 99999) (h1 : 1 ≤ m) (h2 : m ≤ 1000000000000000000000000000000000000000000000000000000000000) :
    ∃ (v : Int) (st1 : Store), F__law_coin [.loc l, .int m] (st ++ cs) = .ok (.int v) (st1 ++ cs) ∧ 0 ≤ v ∧ v < m ∧ DeckS l (n + 1) st1 ∧ st1.length = st.length := by
  have hl := D.lt
  obtain ⟨b, c, ⟨⟨a, a0, ha⟩, hb, hc⟩, hcn, B⟩ := D
  have C : Cup (st ++ cs) l b c := ⟨⟨a, a0, by rw [List.getElem?_append_left hl]; exact ha⟩, hb, hc⟩
  obtain ⟨v, c', x, e, v0, v1, hc', C'⟩ := sip_ok C (by omega) h1 h2
  have hs : (st ++ cs).set l x = st.set l x ++ cs := List.set_append_left _ _ hl
  rw [hs] at e C'
  obtain ⟨⟨a', a0', ha'⟩, hb', hc2⟩ := C'
  have hl' : l < (st.set l x).length := by simpa using hl
  rw [List.getElem?_append_left hl'] at ha'
  refine ⟨v, st.set l x, e, v0, v1, ⟨b, c', ⟨⟨a', a0', ha'⟩, hb', hc2⟩, by omega, ?_⟩, by simp⟩
  unfold Below
  rw [List.all_eq_true]
  intro y hy
  rw [List.length_set]
  rcases List.mem_or_eq_of_mem_set hy with hy | hy
  · exact List.all_eq_true.mp B y hy
  · subst hy
    rw [List.getElem?_set_self hl] at ha'
    cases ha'
    simp only [belowC, subL, sub]
/-- a draw as an expression -/
theorem dr {l n : Nat} {m : Int} {st : Store} (D : DeckS l n st) (cs : Store) (hn : n ≤ 99999) (h1 : 1 ≤ m) (h2 : m ≤ 1000000000000000000000000000000000000000000000000000000000000) {env : PEnv} {i : Nat} {de : DE} (hi : env[i]? = some (some (.loc l))) (hm : de env (st ++ cs) = .ok (.int m) (st ++ cs)) {P : PV → Store → Prop}
    (h : ∀ v st1, 0 ≤ v → v < m → DeckS l (n + 1) st1 → st1.length = st.length → P (.int v) (st1 ++ cs)) : Ok (callF 2 F__law_coin (dCons (dV i) (dCons de dNil)) [] env (st ++ cs)) P := by
  obtain ⟨v, st1, e, v0, v1, D1, hl⟩ := draw_cs D cs hn h1 h2
  exact ⟨_, _, callF_ok (args1 (var_ok hi) (args1 hm args0)) rfl e, h v st1 v0 v1 D1 hl⟩
theorem dr0 {l n : Nat} {m : Int} {st : Store} (D : DeckS l n st) (hn : n ≤ 99999) (h1 : 1 ≤ m) (h2 : m ≤ 1000000000000000000000000000000000000000000000000000000000000) {env : PEnv} {i : Nat} {de : DE} (hi : env[i]? = some (some (.loc l))) (hm : de env st = .ok (.int m) st) {P : PV → Store → Prop}
    (h : ∀ v st1, 0 ≤ v → v < m → DeckS l (n + 1) st1 → st1.length = st.length → P (.int v) st1) : Ok (callF 2 F__law_coin (dCons (dV i) (dCons de dNil)) [] env st) P := by
  have := dr (P := fun v s => P v s) D [] hn h1 h2 (de := de) hi (by simpa using hm) (fun v st1 a b c d => by simpa using h v st1 a b c d)
  simpa using this
/-- some digits are drawn, nothing else changes -/
def Drawn (l n K : Nat) (st cs s : Store) : Prop := ∃ st1 n', s = st1 ++ cs ∧ DeckS l n' st1 ∧ st1.length = st.length ∧ n ≤ n' ∧ n' ≤ n + K
theorem pick_int {xs : List PV} {v : Int} {lo hi : Int} {st : Store} {P : PV → Store → Prop} (h : ∀ x ∈ xs, ∃ b : Int, x = .int b ∧ lo ≤ b ∧ b ≤ hi) (h0 : 0 ≤ v) (h1 : v < xs.length) (k : ∀ b : Int, lo ≤ b → b ≤ hi → P (.int b) st) : Ok (ixD (.lst xs) (.int v) st) P := by
  obtain ⟨x, hx, b, rfl, b0, b1⟩ := atI_all (P := fun x => ∃ b : Int, x = .int b ∧ lo ≤ b ∧ b ≤ hi) h h0 h1
  exact ⟨_, _, ix_seq rfl hx, k b b0 b1⟩
/-- a new cup -/
theorem cup_make {ns : List Int} (hn : ns.length ≤ 63) {k : Nat} (hk : k ≤ 1000) {st : Store} (B : Below st) : ∃ x, F__law_purse [.rls (ns.map .int), .int k] st = .ok (.loc st.length) (st ++ [x]) ∧ DeckS st.length 0 (st ++ [x]) := by
  obtain ⟨x, b, e, C⟩ := cup_ok hn hk st
  refine ⟨x, e, b, 0, C, by simp, ?_⟩
  obtain ⟨⟨a, _, h⟩, _, _⟩ := C
  rw [List.getElem?_concat_length] at h
  cases h
  exact Below.app B (Flat.nil.app (flat_ints [a, b, 0]))
theorem leave_line {l n n' K : Nat} {st st1 cs : Store} (D1 : DeckS l n' st1) (hl : st1.length = st.length) (F : Flat cs) (h1 : n ≤ n') (h2 : n' ≤ n + K) {p : PV} (hp : flat p = true) {own : List Cell} {Q : PV → Store → Prop} (k : Drawn l n K st cs (st1 ++ cs) → Q p (st1 ++ cs)) :
    ∃ q, sub (thaw (st ++ cs).length (st1 ++ (cs ++ own)) 4) p = some q ∧ ((st1 ++ (cs ++ own)).take (st ++ cs).length).all (belowC (st ++ cs).length) = true ∧ Q q ((st1 ++ (cs ++ own)).take (st ++ cs).length) := by
  have B : Below st1 := D1.below
  rw [← List.append_assoc]
  obtain ⟨q, a1, a2, a3, a4⟩ := leave_app (sc := st1 ++ cs) (Below.app B F) (n := (st ++ cs).length) (by simp [hl]) hp (cs := own)
  subst a3
  exact ⟨_, a1, a2, by rw [a4]; exact k ⟨st1, n', rfl, D1, hl, h1, h2⟩⟩

end K53
end CD

set_option Elab.async false
set_option linter.all false
set_option maxRecDepth 100000
set_option maxHeartbeats 4000000
namespace CD
namespace K53
open PySem L2
theorem f_is_integer_i (i : Int) (st : Store) : F_is_integer [.int i] st = .ok (.bl true) st := rfl
theorem f_iiw (v lo hi : Int) (st : Store) : F_is_integer_within [.int v, .int lo, .int hi] st = .ok (.bl (decide (lo ≤ v ∧ v ≤ hi))) st := by
  unfold F_is_integer_within bodyF D_is_integer_within
  simp [seqD, retD, andD, callF, dCons, dNil, dV, Res.bind, tagE, f_is_integer_i, chD, leD, int2, iteM, okM, skipD]
  by_cases h : lo ≤ v <;> simp [h]
theorem f_is_base (b : Int) (st : Store) : F_is_base [.int b] st = .ok (.bl (decide (2 ≤ b ∧ b ≤ 36))) st := by
  unfold F_is_base
  exact bF_rt (ret_go (callF_ok (args1 (var_ok rfl) (args1 con_ok (args1 con_ok args0))) rfl (f_iiw _ _ _ _)))
theorem f_check_base {b : Int} (h : 2 ≤ b ∧ b ≤ 36) (st : Store) : F_check_base [.int b] st = .ok .non st := by
  unfold F_check_base bodyF D_check_base
  simp [seqD, ifS, notB, dB, dC, callF, dCons, dNil, dV, Res.bind, tagE, f_is_base, toB, skipD, h]

end K53
end CD

set_option Elab.async false
set_option linter.all false
set_option maxRecDepth 100000
set_option maxHeartbeats 4000000
namespace CD
namespace K53
open PySem L2
/-! ### signs and texts -/
def knV : Option Int → PV
  | none => .non
  | some d => .int d
def knsV (K : List (Option Int)) : PV := .tup (K.map knV)
abbrev SIGS : Str := "0123456789abcdefghijklmnopqrstuvwxyz"
def SIG : List Nat := SIGS.cps.toList
def ch : Option Int → Nat
  | none => 63
  | some d => (SIG[d.toNat]?).getD 0
def KOk (K : List (Option Int)) (b : Int) : Prop := ∀ d, some d ∈ K → 0 ≤ d ∧ d < b
theorem KOk.mono {K : List (Option Int)} {b c : Int} (h : KOk K b) (hb : b ≤ c) : KOk K c := fun d hd => by have := h d hd; omega
def txt (K : List (Option Int)) : Str := Txt.join "" (K.map fun k => (⟨#[ch k]⟩ : Str))
theorem joinL_ones : ∀ l : List Nat, TL.joinL [] (l.map fun c => [c]) = l
  | [] => rfl
  | [c] => rfl
  | c :: d :: l => by
    have ih := joinL_ones (d :: l)
    show [c] ++ ([] ++ TL.joinL [] ((d :: l).map fun c => [c])) = _
    rw [ih]; rfl
theorem txt_cps (K : List (Option Int)) : (txt K).cps.toList = K.map ch := by
  unfold txt
  rw [TL.join_eq]
  have := TL.tl_join "" (K.map fun k => (⟨#[ch k]⟩ : Str))
  have e : (K.map fun k => (⟨#[ch k]⟩ : Str)).map TL.tl = (K.map ch).map fun c => [c] := by
    rw [List.map_map, List.map_map]; rfl
  rw [e] at this
  have e2 : TL.tl ("" : Str) = [] := rfl
  rw [e2, joinL_ones] at this
  exact this
theorem txt_len (K : List (Option Int)) : (txt K).length = K.length := by
  have := congrArg List.length (txt_cps K)
  rw [List.length_map, Array.length_toList] at this
  exact this
theorem qmark : (PV.str "?") = sg 63 := rfl
theorem sig_at {d : Int} (h : 0 ≤ d ∧ d < 36) : SIG[d.toNat]? = some (ch (some d)) := by
  have hl : SIG.length = 36 := by decide +kernel
  show SIG[d.toNat]? = some ((SIG[d.toNat]?).getD 0)
  rw [List.getElem?_eq_getElem (show d.toNat < SIG.length by omega)]; rfl
theorem sig_ne : ∀ d : Nat, d < 36 → ch (some (d : Int)) ≠ 63 ∧ Builtin.Str.occurrences SIGS ⟨#[ch (some (d : Int))]⟩ 0 SIGS.length 1 = [d] := by decide +kernel
theorem ev_sig {d : Int} {st : Store} (h : 0 ≤ d ∧ d < 36) : ixS (.str SIGS) (.int d) st = .ok (sg (ch (some d))) st := by
  have hat : atI SIGS.cps.toList d = some (ch (some d)) := by
    have := atI_nat' (xs := SIG) (k := d.toNat) (sig_at h)
    rwa [show ((d.toNat : Nat) : Int) = d by omega] at this
  unfold ixS
  simp only
  rw [if_pos (by decide +kernel), hat]
theorem f_sign_of {k : Option Int} (h : ∀ d, k = some d → 0 ≤ d ∧ d < 36) (st : Store) : F_sign_of [knV k] st = .ok (sg (ch k)) st := by
  unfold F_sign_of
  refine Ok.is (wp_body ?_)
  unfold D_sign_of
  refine wp_retp (p := sg (ch k)) ?_ ⟨rfl, rfl⟩
  cases k with
  | none => exact evIfT (dB0 (p2 (pV rfl) con_ok (evIsN rfl))) (by rw [show sg (ch none) = PV.str "?" from qmark.symm]; exact con_ok)
  | some d => exact evIfF (dB0 (p2 (pV rfl) con_ok (evIsN rfl))) (p2 con_ok (pV rfl) (ev_sig (h d rfl)))
theorem join_txt {K : List (Option Int)} (hl : K.length ≤ 100) {st : Store} : joinF (.str "") [.lst (K.map fun k => sg (ch k))] st = .ok (.str (txt K)) st := by
  have e : K.map (fun k => sg (ch k)) = (K.map fun k => (⟨#[ch k]⟩ : Str)).map .str := by rw [List.map_map]; rfl
  rw [e]
  refine ev_join rfl ?_
  have h0 : ("" : Str).length = 0 := rfl
  rw [h0, Nat.mul_zero, Nat.add_zero, List.map_map]
  have : ∀ K : List (Option Int), (K.map ((fun x : Str => x.length) ∘ fun k => (⟨#[ch k]⟩ : Str))).sum = K.length := fun K => by
    induction K with
    | nil => rfl
    | cons k K ih => rw [List.map_cons, List.sum_cons, ih, List.length_cons]; show 1 + K.length = _; omega
  rw [this]; omega
theorem f_text_of {K : List (Option Int)} (h : KOk K 36) (hl : K.length ≤ 30) (st : Store) : F_text_of [knsV K] st = .ok (.str (txt K)) st := by
  unfold F_text_of
  refine Ok.is (wp_body ?_)
  unfold D_text_of
  refine wp_retp (p := .str (txt K)) (meth_ok con_ok rfl (args1 ?_ args0) (join_txt (by omega))) ⟨rfl, rfl⟩
  exact (lc_map (k := okL) (l := K) (enc := knV) (fun k => [some (knsV K), some (knV k)]) (fun k => sg (ch k)) (items_tup (pV rfl)) (by omega) (fun k _ => rfl) (fun k hk => callF_ok (n := 1) (ps := [knV k]) (args1 (pV rfl) args0) rfl (f_sign_of (fun d e => h d (by rw [← e]; exact hk)) st))).trans rfl
theorem f_law_signs {K : List (Option Int)} (h : KOk K 36) (hl : K.length ≤ 30) (st : Store) : F__law_signs [knsV K] st = .ok (.str (txt K)) st := by
  unfold F__law_signs
  refine Ok.is (wp_body ?_)
  unfold D__law_signs
  refine wp_setp (p := .str SIGS) con_ok ?_
  refine wp_retp (p := .str (txt K)) (meth_ok con_ok rfl (args1 ?_ args0) (join_txt (by omega))) ⟨rfl, rfl⟩
  refine (lc_map (k := okL) (l := K) (enc := knV) (fun k => [some (knsV K), some (.str SIGS), some (knV k)]) (fun k => sg (ch k)) (items_tup (pV rfl)) (by omega) (fun k _ => rfl) (fun k hk => ?_)).trans rfl
  cases k with
  | none => exact evIfT (dB0 (p2 (pV rfl) con_ok (evIsN rfl))) (by rw [show sg (ch none) = PV.str "?" from qmark.symm]; exact con_ok)
  | some d => exact evIfF (dB0 (p2 (pV rfl) con_ok (evIsN rfl))) (p2 (pV rfl) (pV rfl) (ev_sig (h d hk)))
theorem intL_at {n i : Nat} (h : i < n) : (intL 0 n)[i]? = some (.int (0 + (i : Nat))) := by
  unfold intL; rw [List.getElem?_map, List.getElem?_range h]; rfl
/-! ### a text read -/
theorem f_digits_of {K : List (Option Int)} (h : KOk K 36) (hl : K.length ≤ 30) (st : Store) : F_digits_of [.str (txt K)] st = .ok (knsV K) st := by
  unfold F_digits_of
  refine Ok.is (wp_body ?_)
  unfold D_digits_of
  refine wp_retp (p := knsV K) (callD_ok (ps := [.lst (K.map knV)]) (args1 ?_ args0) tupF_l) ⟨rfl, rfl⟩
  have hit : itemsS (dV 0) [some (.str (txt K)), none] st = .ok (K.map fun k => sg (ch k)) st := by
    refine (ev_itemsS (pV rfl)).trans ?_
    rw [txt_cps, List.map_map]; rfl
  refine (lc_map (k := okL) (l := K) (enc := fun k => sg (ch k)) (fun k => [some (.str (txt K)), some (sg (ch k))]) knV hit (by omega) (fun k _ => rfl) (fun k hk => ?_)).trans rfl
  cases k with
  | none => exact evIfT (dB0 ((p2 (pV rfl) con_ok ev_eqs).trans (by rw [decide_eq_true (show V.str ⟨#[ch none]⟩ = V.str "?" from rfl)]))) con_ok
  | some d =>
    have hd := h d hk
    obtain ⟨n1, n2⟩ := sig_ne d.toNat (by omega)
    rw [show ((d.toNat : Nat) : Int) = d by omega] at n1 n2
    refine evIfF (dB0 ((p2 (pV rfl) con_ok ev_eqs).trans (by
      rw [decide_eq_false]
      intro e
      have : (⟨#[ch (some d)]⟩ : Str) = "?" := by injection e
      have := congrArg (fun s : Str => s.cps.toList) this
      have : [ch (some d)] = [63] := this
      injection this with this
      exact n1 this))) ?_
    refine meth_ok con_ok rfl (args1 (pV rfl) args0) ?_
    show (match Builtin.Str.occurrences SIGS ⟨#[ch (some d)]⟩ 0 SIGS.length 1 with | i :: _ => Res.ok (PV.int (i : Nat)) st | [] => .stuck) = _
    rw [n2]
    show Res.ok (PV.int ((d.toNat : Nat) : Int)) st = _
    rw [show ((d.toNat : Nat) : Int) = d by omega]; rfl
theorem f_check_text (x : Str) (st : Store) : F_check_text [.str x] st = .ok .non st := by
  unfold F_check_text
  refine Ok.is (wp_body ?_)
  unfold D_check_text
  exact wp_ifF (notB_ok (b := true) (dB_ok (callD_ok (args1 (pV rfl) (args1 con_ok args0)) rfl))) (wp_sk (wp_skip ⟨rfl, rfl⟩))
theorem f_check_signs {K : List (Option Int)} {z : Str} (h1 : 1 ≤ K.length) (hl : K.length ≤ 30) (hz : ∀ k ∈ K, ch k ∈ z.cps.toList) (st : Store) : F_check_signs [.str (txt K), .str z] st = .ok .non st := by
  unfold F_check_signs
  refine Ok.is (wp_body ?_)
  unfold D_check_signs
  refine wp_ifF (notB_ok (b := true) (evTru (p := .str (txt K)) (pV rfl) ?_)) (wp_sk ?_)
  · show (if (txt K).length ≤ sizeLine then some (((txt K).length : Int) != 0) else none) = some true
    rw [txt_len, if_pos (Nat.le_trans hl (by decide))]
    congr 1
    exact bne_iff_ne.mpr (by omega)
  have hit : enumS (dCons (dV 0) dNil) [some (.str (txt K)), some (.str z), none, none] st = .ok (pairs (intL 0 K.length) (K.map fun k => sg (ch k))) st := by
    refine (ev_enumS (pV rfl)).trans ?_
    rw [txt_cps, List.map_map, show (txt K).cps.size = K.length from txt_len K]; rfl
  refine wp_for (I := fun _ e s => s = st ∧ ∃ x2 x3, e = [some (.str (txt K)), some (.str z), x2, x3]) hit ⟨rfl, _, _, rfl⟩ ?_ ?_
  · rintro i x e s hx ⟨rfl, x2, x3, rfl⟩
    have hi : i < K.length := by
      have := lt_of_get hx
      simp [pairs, intL] at this
      exact this
    obtain ⟨k, hk⟩ : ∃ k, K[i]? = some k := ⟨_, List.getElem?_eq_getElem hi⟩
    have ex : x = .tup [.int (0 + (i : Nat)), sg (ch k)] := by
      unfold pairs at hx
      rw [List.getElem?_zipWith, intL_at hi, List.getElem?_map, hk] at hx
      cases hx; rfl
    subst ex
    refine Ok.of rfl ?_
    have hm := hz k (List.mem_of_getElem? hk)
    refine wp_ifF ((evOrB (x := false) (y := false) (dB0 (p2 (p := sg (ch k)) (q := .str z) (pV rfl) (pV rfl) ?_)) fun _ => dB0 ((p2 (pV rfl) con_ok ev_eq).trans (by rw [decide_eq_false (by omega)]))).trans rfl) (wp_sk (wp_skip ⟨_, rfl, rfl, _, _, rfl⟩))
    show Res.ok (PV.bl (decide (ch k ∈ z.cps.toList) != true)) s = _
    rw [decide_eq_true hm]; rfl
  · rintro e s ⟨rfl, x2, x3, rfl⟩
    exact wp_skip ⟨rfl, rfl⟩

end K53
end CD

set_option Elab.async false
set_option linter.all false
set_option maxRecDepth 100000
set_option maxHeartbeats 4000000
namespace CD
namespace K53
open PySem L2
theorem f_fits {xs : List PV} (st : Store) : F_fits_places [.tup xs] st = .ok (.bl (decide (1 ≤ xs.length ∧ xs.length ≤ 30))) st := by
  unfold F_fits_places bodyF D_fits_places
  simp [seqD, retD, andD, callD, dCons, dNil, dV, dC, Res.bind, tagE, isiF, tnOf, isiA, btOf, isiBB, chD, leD, int2, iteM, okM, lenF, seqOf, tupOf]
  by_cases h : 1 ≤ (xs.length : Int)
  · have h' : 1 ≤ xs.length := by omega
    simp [h, h']; omega
  · have h' : ¬ 1 ≤ xs.length := by omega
    simp [h, h']
def codeV (c : List Int) : PV := .tup (c.map .int)
theorem kns_some (c : List Int) : codeV c = knsV (c.map some) := by
  show PV.tup _ = PV.tup _
  rw [List.map_map]; rfl
theorem k_some {c : List Int} {b : Int} (h : ∀ d ∈ c, 0 ≤ d ∧ d < b) : KOk (c.map some) b := fun d hd => by
  obtain ⟨x, hx, e⟩ := List.mem_map.mp hd
  cases e; exact h _ hx
theorem f_format_code {c : List Int} (h1 : 1 ≤ c.length ∧ c.length ≤ 30) (h : ∀ d ∈ c, 0 ≤ d ∧ d < 36) (st : Store) : F_format_code [codeV c] st = .ok (.str (txt (c.map some))) st := by
  unfold F_format_code
  refine Ok.is (wp_body ?_)
  unfold D_format_code
  refine wp_ifF ((evOrB (x := false) (y := false) (notB_ok (b := true) (dB_ok (callF_ok (n := 1) (ps := [codeV c]) (args1 (pV rfl) args0) rfl ((f_fits st).trans (by rw [List.length_map, decide_eq_true h1]))))) fun _ => notB_ok (b := true) (dB_ok ?_)).trans rfl) (wp_sk ?_)
  · refine (all_lc (xs := c.map .int) (f := fun _ => true) (items_tup (pV rfl)) (by rw [List.length_map]; omega) fun x hx => ?_).trans (by simp)
    obtain ⟨d, hd, rfl⟩ := List.mem_map.mp hx
    have := h d hd
    exact callF_ok (n := 3) (ps := [.int d, .int 0, .int (36 - 1)]) (args1 (pV rfl) (args1 con_ok (args1 (p2 con_ok con_ok ev_sub) args0))) rfl ((f_iiw _ _ _ _).trans (by rw [decide_eq_true (by omega)]))
  · refine wp_retp (p := .str (txt (c.map some))) (callF_ok (n := 1) (ps := [codeV c]) (args1 (pV rfl) args0) rfl ?_) ⟨rfl, rfl⟩
    rw [kns_some]
    exact f_text_of (k_some h) (by rw [List.length_map]; omega) st
/-! ### the first signs -/
theorem cut_sig : ∀ b : Nat, b < 37 → (cutS SIGS none (some (b : Int))).cps.toList = SIG.take b := by decide +kernel
theorem ch_take {d b : Int} (h : 0 ≤ d ∧ d < b) (hb : b ≤ 36) : ch (some d) ∈ SIG.take b.toNat := by
  have := sig_at (d := d) (by omega)
  refine List.mem_of_getElem? (i := d.toNat) ?_
  rw [List.getElem?_take, if_pos (by omega), this]
theorem ev_cut {b : Int} (h : 2 ≤ b ∧ b ≤ 36) {env : PEnv} {st : Store} {i : Nat} (hi : env[i]? = some (some (.int b))) : slS (dC (.str SIGS)) noPart (partOf (dV i)) env st = .ok (.str (cutS SIGS none (some b))) st := by
  unfold slS
  rw [con_ok, Res.bind_ok, show noPart env st = .ok none st from rfl, Res.bind_ok, part_ok (var_ok hi), Res.bind_ok]
  simp only
  rw [if_pos (by decide +kernel)]
theorem cut_mem {K : List (Option Int)} {b : Int} (hb : 2 ≤ b ∧ b ≤ 36) {d : Int} (h : 0 ≤ d ∧ d < b) : ch (some d) ∈ (cutS SIGS none (some b)).cps.toList := by
  have := cut_sig b.toNat (by omega)
  rw [show ((b.toNat : Nat) : Int) = b by omega] at this
  rw [this]
  exact ch_take h hb.2
theorem f_parse_code {c : List Int} {b : Int} (hb : 2 ≤ b ∧ b ≤ 36) (h1 : 1 ≤ c.length ∧ c.length ≤ 30) (h : ∀ d ∈ c, 0 ≤ d ∧ d < b) (st : Store) : F_parse_code [.str (txt (c.map some)), .int b] st = .ok (codeV c) st := by
  unfold F_parse_code
  refine Ok.is (wp_body ?_)
  unfold D_parse_code
  refine wp_expr (callF_ok (n := 1) (ps := [.str (txt (c.map some))]) (args1 (pV rfl) args0) rfl (f_check_text _ st)) (wp_expr (callF_ok (n := 1) (ps := [.int b]) (args1 (pV rfl) args0) rfl (f_check_base hb st)) (wp_expr (callF_ok (n := 2) (ps := [.str (txt (c.map some)), .str (cutS SIGS none (some b))]) (args1 (pV rfl) (args1 (ev_cut hb rfl) args0)) rfl (f_check_signs (by rw [List.length_map]; omega) (by rw [List.length_map]; omega) (fun k hk => ?_) st)) ?_))
  · obtain ⟨d, hd, rfl⟩ := List.mem_map.mp hk
    exact cut_mem (K := []) hb (h d hd)
  · rw [kns_some]
    exact wp_retp (p := knsV (c.map some)) (callF_ok (n := 1) (ps := [.str (txt (c.map some))]) (args1 (pV rfl) args0) rfl (f_digits_of (k_some fun d hd => by have := h d hd; omega) (by rw [List.length_map]; omega) st)) ⟨rfl, rfl⟩
theorem cut_q {b : Int} (hb : 2 ≤ b ∧ b ≤ 36) (st : Store) : addD (.str (cutS SIGS none (some b))) (.str "?") st = .ok (.str (cutS SIGS none (some b) ++ "?")) st := by
  have hl : (cutS SIGS none (some b)).length ≤ 36 := by
    have := congrArg List.length (cut_sig b.toNat (by omega))
    rw [show ((b.toNat : Nat) : Int) = b by omega, Array.length_toList] at this
    have h2 : (SIG.take b.toNat).length ≤ b.toNat := by rw [List.length_take]; omega
    show (cutS SIGS none (some b)).cps.size ≤ 36
    omega
  show iteM ((cutS SIGS none (some b)).length + ("?" : Str).length ≤ sizeLine) (okM (.str (cutS SIGS none (some b) ++ "?"))) st = _
  unfold iteM
  have h1 : ("?" : Str).length = 1 := rfl
  rw [if_pos (Nat.le_trans (show (cutS SIGS none (some b)).length + ("?" : Str).length ≤ 37 by omega) (by decide))]; rfl
theorem f_parse_partial {K : List (Option Int)} {b : Int} (hb : 2 ≤ b ∧ b ≤ 36) (h1 : 1 ≤ K.length ∧ K.length ≤ 30) (h : KOk K b) (st : Store) : F_parse_partial [.str (txt K), .int b] st = .ok (knsV K) st := by
  unfold F_parse_partial
  refine Ok.is (wp_body ?_)
  unfold D_parse_partial
  refine wp_expr (callF_ok (n := 1) (ps := [.str (txt K)]) (args1 (pV rfl) args0) rfl (f_check_text _ st)) (wp_expr (callF_ok (n := 1) (ps := [.int b]) (args1 (pV rfl) args0) rfl (f_check_base hb st)) (wp_expr (callF_ok (n := 2) (ps := [.str (txt K), .str (cutS SIGS none (some b) ++ "?")]) (args1 (pV rfl) (args1 (p2 (ev_cut hb rfl) con_ok (cut_q hb st)) args0)) rfl (f_check_signs h1.1 h1.2 (fun k hk => ?_) st)) ?_))
  · have ea : (cutS SIGS none (some b) ++ "?").cps.toList = (cutS SIGS none (some b)).cps.toList ++ [63] := by
      show ((cutS SIGS none (some b)).cps ++ ("?" : Str).cps).toList = _
      rw [Array.toList_append]; rfl
    rw [ea, List.mem_append]
    cases k with
    | none => exact .inr (by simp [ch])
    | some d => exact .inl (cut_mem (K := []) hb (h d hk))
  · exact wp_retp (p := knsV K) (callF_ok (n := 1) (ps := [.str (txt K)]) (args1 (pV rfl) args0) rfl (f_digits_of (h.mono hb.2) h1.2 st)) ⟨rfl, rfl⟩
/-! ### how long a text's repr is -/
theorem rc_len : ∀ c ∈ 63 :: SIG, (Builtin.Str.reprChar 34 c).length ≤ 10 ∧ (Builtin.Str.reprChar 39 c).length ≤ 10 := by decide +kernel
theorem fold_len (q : Nat) : ∀ (l : List Nat) (n : Nat), (∀ c ∈ l, (Builtin.Str.reprChar q c).length ≤ 10) → l.foldl (fun n c => n + (Builtin.Str.reprChar q c).length) n ≤ n + 10 * l.length
  | [], n, _ => by simp
  | c :: l, n, h => by
    have h1 := h c List.mem_cons_self
    have ih := fold_len q l (n + (Builtin.Str.reprChar q c).length) fun x hx => h x (List.mem_cons_of_mem _ hx)
    simp only [List.foldl_cons, List.length_cons]
    omega
theorem ch_mem {K : List (Option Int)} (h : KOk K 36) {k : Option Int} (hk : k ∈ K) : ch k ∈ 63 :: SIG := by
  cases k with
  | none => exact List.mem_cons_self
  | some d => exact List.mem_cons_of_mem _ (List.mem_of_getElem? (sig_at (h d hk)))
theorem small_txt {K : List (Option Int)} (h : KOk K 36) (hl : K.length ≤ 30) : Small (.str (txt K)) := by
  simp only [Small]
  refine ⟨?_, rfl⟩
  show (reprText (txt K)).length ≤ 1000
  rw [← reprLen_eq, ← Array.foldl_toList, txt_cps]
  have hq : reprQuote (txt K) = 34 ∨ reprQuote (txt K) = 39 := by unfold reprQuote; split <;> simp
  have := fold_len (reprQuote (txt K)) (K.map ch) 2 fun c hc => by
    obtain ⟨k, hk, rfl⟩ := List.mem_map.mp hc
    have := rc_len _ (ch_mem h hk)
    rcases hq with q | q
    · rw [q]; exact this.1
    · rw [q]; exact this.2
  rw [List.length_map] at this
  omega

end K53
end CD

set_option Elab.async false
set_option linter.all false
set_option maxRecDepth 100000
set_option maxHeartbeats 4000000
namespace CD
namespace K53
open PySem L2
def kd : Option Int → PyData
  | none => .none
  | some d => .int d
theorem kd_lay : ∀ K : List (Option Int), PyData.canLayAll0 (K.map kd) = true
  | [] => rfl
  | none :: K => by simp [PyData.canLayAll0, PyData.canLay0, kd, kd_lay K]
  | some d :: K => by simp [PyData.canLayAll0, PyData.canLay0, kd, kd_lay K]
theorem kd_depth : ∀ K : List (Option Int), PyData.depthAll (K.map kd) ≤ 1
  | [] => by simp [PyData.depthAll]
  | none :: K => by have := kd_depth K; simp only [List.map_cons, PyData.depthAll, kd, PyData.depth]; omega
  | some d :: K => by have := kd_depth K; simp only [List.map_cons, PyData.depthAll, kd, PyData.depth]; omega
theorem kd_eqv : ∀ K : List (Option Int), PyData.eqvAll (K.map kd) (K.map kd) = true
  | [] => by simp [PyData.eqvAll]
  | none :: K => by simp [PyData.eqvAll, PyData.eqv, kd, kd_eqv K]
  | some d :: K => by simp [PyData.eqvAll, PyData.eqv, kd, kd_eqv K]
theorem kns_to {K : List (Option Int)} (h : Nat → Option PyData) : toDL h (K.map knV) = some (K.map kd) := toDL_map K fun k _ => by cases k <;> simp [knV, kd, toD]
theorem small_kns {K : List (Option Int)} (hd : KOk K 36) : SmallL (K.map kd) := smallL_map K fun k hk => by
  cases k with
  | none => simp [kd, Small]
  | some d => exact small_int (by have := hd d hk; omega)
theorem okShow_kns (n : Nat) (hn : n ≤ 10) {K : List (Option Int)} (hK : K.length ≤ 30) (hd : KOk K 36) : OkShow (.list (List.replicate n (.tuple (K.map kd)))) := by
  have hs := small_kns hd
  have hN := nodesL_map (g := kd) (n := 1) K (fun k _ => by cases k <;> simp [kd, nodes])
  have hp := kd_depth K
  have a1 : ∀ n, SmallL (List.replicate n (PyData.tuple (K.map kd))) := fun n => by
    induction n with
    | zero => simp [SmallL]
    | succ n ih => rw [List.replicate_succ]; simp only [SmallL, Small]; exact ⟨hs, ih⟩
  have a2 : ∀ n, PyData.depthAll (List.replicate n (PyData.tuple (K.map kd))) ≤ 2 := fun n => by
    induction n with
    | zero => simp [PyData.depthAll]
    | succ n ih => rw [List.replicate_succ]; simp only [PyData.depthAll, PyData.depth]; omega
  have a3 : ∀ n, nodesL (List.replicate n (PyData.tuple (K.map kd))) ≤ 31 * n := fun n => by
    induction n with
    | zero => simp [nodesL]
    | succ n ih => rw [List.replicate_succ]; simp only [nodesL, nodes]; omega
  refine okShow_of rfl ?_ ?_ ?_
  · simp only [Small]; exact a1 n
  · simp only [PyData.depth]; have := a2 n; omega
  · simp only [nodes]; have := a3 n; omega
theorem okShow_txt {K : List (Option Int)} (hK : K.length ≤ 30) (hd : KOk K 36) : OkShow (.list [.str (txt K), .str (txt K)]) := by
  have hs := small_txt hd hK
  refine okShow_of rfl ?_ ?_ ?_
  · simp only [Small, SmallL]; simp only [Small] at hs; exact ⟨hs, hs, trivial⟩
  · simp only [PyData.depth, PyData.depthAll]; omega
  · simp only [nodes, nodesL]; omega
theorem callK1 {F : List PV → M PV} {d : DE} {p : PV} {env : PEnv} {st s1 : Store} {r : Res PV} (hd : d env st = .ok p s1) (h : F [p] s1 = r) : callK 0 1 1 [] [(1, 0)] F dNil (dCons d dNil) env st = r := by
  rw [ev_callK, show dNil env st = .ok [] st from rfl, Res.bind_ok, args1 hd args0, Res.bind_ok]; exact h
theorem callK2 {F : List PV → M PV} {d e : DE} {p q : PV} {env : PEnv} {st s1 s2 : Store} {r : Res PV} (hd : d env st = .ok p s1) (he : e env s1 = .ok q s2) (h : F [q, p] s2 = r) : callK 0 2 2 [] [(1, 1), (1, 0)] F dNil (dCons d (dCons e dNil)) env st = r := by
  rw [ev_callK, show dNil env st = .ok [] st from rfl, Res.bind_ok, args1 hd (args1 he args0), Res.bind_ok]; exact h
def gapK (c S : List Int) : List (Option Int) := (List.range c.length).map fun (i : Nat) => if ((i : Nat) : Int) ∈ S then none else some ((c[i]?).getD 0)
theorem gapK_ok {c S : List Int} {b : Int} (h : ∀ d ∈ c, 0 ≤ d ∧ d < b) : KOk (gapK c S) b := fun d hd => by
  obtain ⟨i, hi, e⟩ := List.mem_map.mp hd
  have hi' := List.mem_range.mp hi
  split at e
  · cases e
  · cases e
    rw [List.getElem?_eq_getElem hi']
    exact h _ (List.getElem_mem hi')
theorem gapK_len {c S : List Int} : (gapK c S).length = c.length := by simp [gapK]
set_option maxHeartbeats 8000000 in
theorem f_law_right {c S : List Int} {b : Int} (hb : 2 ≤ b ∧ b ≤ 36) (h1 : 1 ≤ c.length ∧ c.length ≤ 30) (h : ∀ d ∈ c, 0 ≤ d ∧ d < b) (st : Store) : F__law_right [codeV c, .int b, .lst (S.map .int)] st = .ok (.bl true) st := by
  have hK : KOk (c.map some) b := k_some h
  have hK6 : KOk (c.map some) 36 := hK.mono hb.2
  have hc6 : ∀ d ∈ c, 0 ≤ d ∧ d < 36 := fun d hd => by have := h d hd; omega
  have hl : (c.map some).length ≤ 30 := by rw [List.length_map]; omega
  unfold F__law_right
  refine Ok.is (wp_body ?_)
  unfold D__law_right
  refine wp_setp (p := .str (txt (c.map some))) (callF_ok (n := 1) (ps := [codeV c]) (args1 (pV rfl) args0) rfl (by rw [kns_some]; exact f_law_signs hK6 hl st)) ?_
  have hf := f_format_code h1 hc6 st
  refine wp_ifF (dB0 ((repr_eq (neg := true) (dd := .list [.str (txt (c.map some)), .str (txt (c.map some))]) (lst_ok' (args1 (callF_ok (n := 1) (ps := [codeV c]) (args1 (pV rfl) args0) rfl hf) (args1 (callK1 (pV rfl) hf) args0)) (by simp)) (lst_ok' (args1 (pV rfl) (args1 (pV rfl) args0)) (by simp)) rfl rfl (okShow_txt hl hK6)).trans rfl)) (wp_sk ?_)
  have hit : itemsD (lstD (dCons (dV 1) (dCons (dC (.int 36)) (dCons (callD minF (dCons (dC (.int 36)) (dCons (d2 addD (dV 1) (dC (.int 1))) dNil))) dNil)))) [some (codeV c), some (.int b), some (.lst (S.map .int)), some (.str (txt (c.map some))), none, none, none, none, none] st = .ok [.int b, .int 36, .int (min 36 (b + 1))] st :=
    items_lst (lst_ok' (args1 (pV rfl) (args1 con_ok (args1 (callD_ok (args1 con_ok (args1 (p2 (pV rfl) con_ok ev_add) args0)) ev_min) args0))) (by simp))
  refine wp_for (I := fun _ e s => s = st ∧ ∃ x4 x5, e = [some (codeV c), some (.int b), some (.lst (S.map .int)), some (.str (txt (c.map some))), x4, x5, none, none, none]) hit ⟨rfl, _, _, rfl⟩ ?_ ?_
  · rintro i x e s hx ⟨rfl, x4, x5, rfl⟩
    obtain ⟨m, rfl, m0, m1⟩ : ∃ m : Int, x = .int m ∧ b ≤ m ∧ m ≤ 36 := by
      have := List.mem_of_getElem? hx
      simp only [List.mem_cons, List.not_mem_nil, or_false] at this
      rcases this with rfl | rfl | rfl
      · exact ⟨_, rfl, by omega, by omega⟩
      · exact ⟨_, rfl, by omega, by omega⟩
      · exact ⟨_, rfl, by omega, by omega⟩
    have hm : 2 ≤ m ∧ m ≤ 36 := ⟨by omega, m1⟩
    have fp := f_parse_code hm h1 (fun d hd => by have := h d hd; omega) s
    have fq := f_parse_partial hm (K := c.map some) (by rw [List.length_map]; exact h1) (hK.mono m0) s
    rw [← kns_some] at fq
    refine Ok.of rfl (wp_setp (p := .lst [codeV c, codeV c, codeV c]) (lst_ok' (args1 (callF_ok (n := 2) (ps := [.str (txt (c.map some)), .int m]) (args1 (pV rfl) (args1 (pV rfl) args0)) rfl fp) (args1 (callK2 (pV rfl) (pV rfl) fp) (args1 (callF_ok (n := 2) (ps := [.str (txt (c.map some)), .int m]) (args1 (pV rfl) (args1 (pV rfl) args0)) rfl fq) args0))) (by simp)) ?_)
    have e1 : ∀ st : Store, dataOf st (.lst [codeV c, codeV c, codeV c]) = some (.list (List.replicate 3 (.tuple ((c.map some).map kd)))) := fun st => by
      rw [kns_some]
      simp only [dataOf, knsV, toD, toDL, kns_to, Option.map]
      rfl
    refine wp_ifF (dB0 ((repr_eq (neg := true) (dd := .list (List.replicate 3 (.tuple ((c.map some).map kd)))) (pV rfl) (p2 (p := .lst [codeV c]) (q := .int 3) (lst_ok' (args1 (pV rfl) args0) (by simp)) con_ok ((ev_mull (by decide) (by decide) (by show 1 * 3 ≤ 100000; decide)).trans rfl)) (e1 _) (e1 _) (okShow_kns 3 (by decide) hl hK6)).trans rfl)) (wp_sk (wp_skip ⟨_, rfl, rfl, _, _, rfl⟩))
  rintro e s ⟨rfl, x4, x5, rfl⟩
  have gl : (gapK c S).length = c.length := gapK_len
  have gk : KOk (gapK c S) b := gapK_ok h
  refine wp_setp (p := knsV (gapK c S)) (callD_ok (ps := [.lst ((gapK c S).map knV)]) (args1 ?_ args0) tupF_l) ?_
  · have hen : enumD2 (dCons (dV 0) dNil) [some (codeV c), some (.int b), some (.lst (S.map .int)), some (.str (txt (c.map some))), x4, x5, none, none, none] s = .ok ((List.range c.length).map fun (i : Nat) => .tup [.int (0 + (i : Nat)), .int ((c[i]?).getD 0)]) s := by
      refine (evEnum (p := codeV c) (xs := c.map .int) (pV rfl) rfl).trans ?_
      congr 1
      rw [List.length_map]
      have : c.map PV.int = (List.range c.length).map fun (i : Nat) => PV.int ((c[i]?).getD 0) := by
        apply List.ext_getElem?
        intro i
        rw [List.getElem?_map, List.getElem?_map]
        by_cases hi : i < c.length
        · rw [List.getElem?_range hi]
          show (c[i]?).map PV.int = some (PV.int ((c[i]?).getD 0))
          rw [List.getElem?_eq_getElem hi]; rfl
        · rw [List.getElem?_eq_none (by omega), List.getElem?_eq_none (by rw [List.length_range]; omega)]; rfl
      rw [this, intL_map, List.map_map]
      exact pairs_map _ _ _
    refine (lc_map (k := okL) (l := List.range c.length) (enc := fun (i : Nat) => .tup [.int (0 + (i : Nat)), .int ((c[i]?).getD 0)]) (fun (i : Nat) => [some (codeV c), some (.int b), some (.lst (S.map .int)), some (.str (txt (c.map some))), x4, x5, none, some (.int (0 + (i : Nat))), some (.int ((c[i]?).getD 0))]) (fun (i : Nat) => knV (if ((i : Nat) : Int) ∈ S then none else some ((c[i]?).getD 0))) hen (by rw [List.length_range]; omega) (fun i _ => rfl) (fun i hi => ?_)).trans ?_
    · have hin : dB (d2 (inD false) (dV 7) (dV 2)) [some (codeV c), some (.int b), some (.lst (S.map .int)), some (.str (txt (c.map some))), x4, x5, none, some (.int (0 + (i : Nat))), some (.int ((c[i]?).getD 0))] s = .ok (decide (((i : Nat) : Int) ∈ S)) s := dB0 ((p2 (pV rfl) (pV rfl) (ev_inI (l := S) rfl)).trans (by rw [Int.zero_add]; simp))
      by_cases q : ((i : Nat) : Int) ∈ S
      · rw [decide_eq_true q] at hin
        rw [if_pos q]
        exact evIfT hin con_ok
      · rw [decide_eq_false q] at hin
        rw [if_neg q]
        exact evIfF hin (pV rfl)
    · show Res.ok (PV.lst _) s = Res.ok (PV.lst _) s
      unfold gapK
      rw [List.map_map]; rfl
  have fs := f_law_signs (gk.mono hb.2) (by omega) s
  have fq := f_parse_partial hb (K := gapK c S) (by omega) gk s
  refine wp_setp (p := .lst [knsV (gapK c S), knsV (gapK c S)]) (lst_ok' (args1 (callF_ok (n := 2) (ps := [.str (txt (gapK c S)), .int b]) (args1 (callF_ok (n := 1) (ps := [knsV (gapK c S)]) (args1 (pV rfl) args0) rfl fs) (args1 (pV rfl) args0)) rfl fq) (args1 (callK2 (pV rfl) (callF_ok (n := 1) (ps := [knsV (gapK c S)]) (args1 (pV rfl) args0) rfl fs) fq) args0)) (by simp)) ?_
  have e1 : ∀ st : Store, dataOf st (.lst [knsV (gapK c S), knsV (gapK c S)]) = some (.list (List.replicate 2 (.tuple ((gapK c S).map kd)))) := fun st => by
    simp only [dataOf, knsV, toD, toDL, kns_to, Option.map]
    rfl
  exact wp_retp (p := .bl true) ((repr_eq (neg := false) (dd := .list (List.replicate 2 (.tuple ((gapK c S).map kd)))) (pV rfl) (lst_ok' (args1 (pV rfl) (args1 (pV rfl) args0)) (by simp)) (e1 _) (e1 _) (okShow_kns 2 (by decide) (by omega) (gk.mono hb.2))).trans rfl) ⟨rfl, rfl⟩

end K53
end CD

set_option Elab.async false
set_option linter.all false
set_option maxRecDepth 100000
set_option maxHeartbeats 4000000
namespace CD
namespace K53
open PySem L2
theorem ok_itemsL {dd : DE} {env : PEnv} {st : Store} {P : List PV → Store → Prop} (h : Ok (dd env st) fun p s => ∃ xs, p = .lst xs ∧ P xs s) : Ok (itemsD dd env st) P := by
  obtain ⟨p, s, e, xs, rfl, k⟩ := h
  exact ⟨_, _, items_lst e, k⟩
theorem lc_move {k : List PV → M PV} {it : PEnv → M (List PV)} {vs : List Nat} {g : PV → PEnv → M PEnv} {t : PEnv → M Bool} {e : DE} {env : PEnv} {st s1 : Store} {xs : List PV} (h : it env st = .ok xs s1) : lcD k it vs g t e env st = lcD k (fun _ s => .ok xs s) vs g t e env s1 := by
  unfold lcD; rw [h]
def upto (n : Nat) : List Int := (List.range n).map fun (i : Nat) => (i : Int)
theorem rgF_upto (n : Int) : rgF n = (upto n.toNat).map .int := by unfold rgF upto; rw [List.map_map]; rfl
theorem ev_revC {d : DE} {env : PEnv} {st : Store} {c : List Int} (h : d env st = .ok (codeV c) st) : revD d env st = .ok (codeV c.reverse) st := by
  unfold revD; rw [h]
  show Res.ok (PV.tup (c.map PV.int).reverse) st = _
  rw [← List.map_reverse]; rfl
theorem right_ok {c S : List Int} {b : Int} (hb : 2 ≤ b ∧ b ≤ 36) (h1 : 1 ≤ c.length ∧ c.length ≤ 30) (h : ∀ d ∈ c, 0 ≤ d ∧ d < b) {d1 d2' d3 : DE} {env : PEnv} {st : Store} (e1 : d1 env st = .ok (codeV c) st) (e2 : d2' env st = .ok (.int b) st) (e3 : d3 env st = .ok (.lst (S.map .int)) st) :
    notB (dB (callF 3 F__law_right (dCons d1 (dCons d2' (dCons d3 dNil))) [])) env st = .ok false st :=
  notB_ok (b := true) (dB_ok (callF_ok (n := 3) (ps := [codeV c, .int b, .lst (S.map .int)]) (args1 e1 (args1 e2 (args1 e3 args0))) rfl (f_law_right hb h1 h st)))
set_option maxHeartbeats 16000000 in
theorem law_true (ns : List Int) (hn : ns.length ≤ 63) : ∃ st, F_law [.rls (ns.map .int)] [] = .ok (.bl true) st := by
  suffices h : Ok (F_law [.rls (ns.map .int)] []) fun v _ => v = .bl true by
    obtain ⟨v, st, e, rfl⟩ := h; exact ⟨st, e⟩
  unfold F_law
  refine wp_body ?_
  unfold D_law
  refine wp_for (I := fun i e s => ∃ x1 x2 x3 x4 x5 x6, Below s ∧ e = [some (.rls (ns.map .int)), x1, x2, x3, x4, x5, x6, none, none]) (rng1_ok (j := max 1 (min 5 (ns.length : Int))) (st1 := []) (args1 (callD_ok (args1 con_ok (args1 (callD_ok (args1 con_ok (args1 ((callD_ok (args1 (var_ok rfl) args0) ev_len_rls).trans (by rw [List.length_map])) args0)) ev_min) args0)) ev_max) args0) (by omega) (by omega)) ⟨_, _, _, _, _, _, rfl, rfl⟩ ?_ ?_
  · rintro i x e s hx ⟨x1, x2, x3, x4, x5, x6, B, rfl⟩
    obtain ⟨rfl, hi⟩ := intL_mem hx
    have hi' : i < 5 := by omega
    obtain ⟨c0, ec, D0⟩ := cup_make hn (k := i) (by omega) B
    let l := s.length
    refine Ok.of rfl (wp_setv (p := .loc l) (s1 := s ++ [c0]) (callF_ok (ps := [.rls (ns.map .int), .int i]) (args1 (pV rfl) (args1 ((pV rfl).trans (by rw [Int.zero_add])) args0)) rfl ec) ?_)
    refine wp_forO <| ok_itemsL <| ok_lst <| ok_cons <| Ok.of con_ok <| ok_cons <| Ok.of con_ok <| ok_cons <| Ok.of con_ok <| ok_cons <| Ok.of con_ok <| ok_cons <| ok_2 <| Ok.of con_ok <| dr0 (m := 35) D0 (by omega) (by decide) (by decide) rfl con_ok fun u s1 u0 u1 D1 h1 => Ok.of ev_add <| ok_cons <| ok_2 <| Ok.of con_ok <| dr0 (m := 35) D1 (by omega) (by decide) (by decide) rfl con_ok fun v s2 v0 v1 D2 h2 => Ok.of ev_add <| ok_nil ⟨by simp, _, rfl, ?_⟩
    refine ⟨fun j e s => ∃ n x3 x4 x5 x6, DeckS l n s ∧ n ≤ 2 + 100 * j ∧ e = [some (.rls (ns.map .int)), some (.int (0 + (i : Int))), some (.loc l), x3, x4, x5, x6, none, none], ⟨_, _, _, _, _, D2, by omega, rfl⟩, ?_, ?_⟩
    · rintro j x e s hx ⟨n, x3, x4, x5, x6, D, hn', rfl⟩
      have hj : j < 6 := by have := lt_of_get hx; simpa using this
      obtain ⟨b, rfl, hb⟩ : ∃ b : Int, x = .int b ∧ 2 ≤ b ∧ b ≤ 36 := by
        have := List.mem_of_getElem? hx
        simp only [List.mem_cons, List.not_mem_nil, or_false] at this
        rcases this with rfl | rfl | rfl | rfl | rfl | rfl
        all_goals exact ⟨_, rfl, by omega, by omega⟩
      refine Ok.of rfl <| wp_set <| ok_2 <| ok_lst <| ok_cons <| ok_2 <| Ok.of con_ok <| dr0 (m := 6) D (by omega) (by decide) (by decide) rfl con_ok fun u s1 u0 u1 D1 h1 => Ok.of ev_add <| ok_cons <| ok_2 <| Ok.of con_ok <| dr0 (m := 30) D1 (by omega) (by decide) (by decide) rfl con_ok fun v s2 v0 v1 D2 h2 => Ok.of ev_add <| ok_cons <| Ok.of con_ok <| ok_nil ⟨by simp, dr0 (m := 3) D2 (by omega) (by decide) (by decide) rfl con_ok fun w s3 w0 w1 D3 h3 => ?_⟩
      refine pick_int (lo := 1) (hi := 30) (fun x hx => ?_) w0 (by simpa using w1) fun size z0 z1 => ?_
      · simp only [List.mem_cons, List.not_mem_nil, or_false] at hx
        rcases hx with rfl | rfl | rfl
        all_goals exact ⟨_, rfl, by omega, by omega⟩
      refine wp_set (ok_callD (ok_cons (wp_lc (J := fun a acc s => ∃ (c : List Int) (n4 : Nat), acc = c.map .int ∧ c.length = a ∧ (∀ d ∈ c, 0 ≤ d ∧ d < b) ∧ DeckS l n4 s ∧ n4 ≤ n + 3 + a) (rng1_ok (j := size) (args1 (pV rfl) args0) (by omega) (by omega)) (by rw [intL_len]; omega) ⟨[], n + 3, rfl, rfl, by simp, D3, by omega⟩ ?_ ?_)))
      · rintro a x acc s' hx ⟨c, n4, rfl, hc, hcb, D4, h4⟩
        have ha := (intL_mem hx).2
        refine Ok.of rfl (dr0 D4 (by omega) (by omega) (by omega) rfl (pV rfl) ?_)
        rintro f s5 f0 f1 D5 h5
        exact ⟨c ++ [f], n4 + 1, by simp, by simp [hc], fun d hd => by
          rcases List.mem_append.mp hd with hd | hd
          · exact hcb d hd
          · simp at hd; subst hd; exact ⟨f0, f1⟩, D5, by omega⟩
      rintro acc s4 ⟨c, n4, rfl, hc, hcb, D4, h4⟩
      rw [intL_len] at hc h4
      refine okL_ok (ok_nil (Ok.of (a := codeV c) (s := s4) tupF_l ?_))
      obtain ⟨t, s5, et, t0, t1, D5, h5⟩ := draw_cs D4 [] (m := 9) (by omega) (by decide) (by decide)
      rw [List.append_nil, List.append_nil] at et
      refine wp_set ?_
      rw [lc_move (s1 := s5) (xs := intL 0 t.toNat) (rng1_ok (j := t) (args1 (callF_ok (n := 2) (ps := [.loc l, .int 9]) (args1 (pV rfl) (args1 con_ok args0)) rfl et) args0) (by omega) (by omega))]
      refine wp_lc (J := fun a acc s => ∃ (S : List Int) (n6 : Nat), acc = S.map .int ∧ DeckS l n6 s ∧ n6 ≤ n4 + 1 + a) rfl (by rw [intL_len]; omega) ⟨[], n4 + 1, rfl, D5, by omega⟩ ?_ ?_
      · rintro a x acc s' hx ⟨S, n6, rfl, D6, h6⟩
        have ha := (intL_mem hx).2
        refine Ok.of rfl (dr0 D6 (by omega) (by omega) (by omega) rfl (pV rfl) ?_)
        rintro f s7 f0 f1 D7 h7
        exact ⟨S ++ [f], n6 + 1, by simp, D7, by omega⟩
      rintro acc s6 ⟨S, n6, rfl, D6, h6⟩
      rw [intL_len] at h6
      refine okL_ok ?_
      have hc1 : 1 ≤ c.length ∧ c.length ≤ 30 := by omega
      refine wp_ifF ((evOrB (x := false) (y := false) (right_ok hb hc1 hcb (pV rfl) (pV rfl) (pV rfl)) fun _ => right_ok (c := c.reverse) (S := upto size.toNat) hb (by rw [List.length_reverse]; exact hc1) (fun d hd => hcb d (List.mem_reverse.mp hd)) (ev_revC (pV rfl)) (pV rfl) ((ev_lrgV (pV rfl) (by omega)).trans (by rw [rgF_upto]))).trans rfl) (wp_sk (wp_skip ⟨_, rfl, n6, _, _, _, _, D6, by omega, rfl⟩))
    · rintro e s ⟨n, x3, x4, x5, x6, D, hn', rfl⟩
      exact wp_skip ⟨_, rfl, _, _, _, _, _, _, D.below, rfl⟩
  rintro e s ⟨x1, x2, x3, x4, x5, x6, B, rfl⟩
  have hr2 : ∀ {env : PEnv} {st : Store}, trg2VD (dC (.int 6)) (dC (.int 36)) env st = .ok (codeV ((upto 30).map fun x => 6 + x)) st := fun {env st} => by
    refine (ev_trg2V con_ok con_ok (by decide)).trans ?_
    rw [intL_map]
    show Res.ok (PV.tup _) st = Res.ok (PV.tup _) st
    unfold upto
    rw [List.map_map, List.map_map, List.map_map]; rfl
  have hr1 : ∀ {env : PEnv} {st : Store}, trgVD (dC (.int 30)) env st = .ok (codeV (upto 30)) st := fun {env st} => (ev_trgV con_ok (by decide)).trans (by rw [rgF_upto]; rfl)
  refine wp_ifF ((evOrB (x := false) (y := false) (right_ok (c := upto 30) (S := [0, 29]) (b := 30) (by decide) (by decide +kernel) (by decide +kernel) hr1 con_ok (lst_ok' (args1 con_ok (args1 con_ok args0)) (by simp))) fun _ => right_ok (c := (upto 30).map fun x => 6 + x) (S := []) (b := 36) (by decide) (by decide +kernel) (by decide +kernel) hr2 con_ok (lst_ok' args0 (by simp))).trans rfl) (wp_sk ?_)
  let T : Str := txt ([2, 11, 0].map some)
  let K : List (Option Int) := [some 1, none, some 1, none]
  have hT : T = "2b0" := by decide +kernel
  have hP : txt K = "1?1?" := by decide +kernel
  have f1 := f_format_code (c := [2, 11, 0]) (by decide) (by decide) s
  have f2 := f_parse_partial (K := K) (b := 10) (by decide) (by decide) (fun d hd => by simp [K] at hd; omega) s
  rw [hP] at f2
  refine wp_retp (p := .bl true) (p2 (p := .lst [.str T, knsV K]) (q := .lst [.str T, knsV K]) (lst_ok' (args1 (callF_ok (n := 1) (ps := [codeV [2, 11, 0]]) (args1 (pTup (pa1 con_ok (pa1 con_ok (pa1 con_ok args0)))) args0) rfl f1) (args1 (callF_ok (n := 2) (ps := [.str "1?1?", .int 10]) (args1 con_ok (args1 con_ok args0)) rfl f2) args0)) (by simp)) (lst_ok' (args1 (p := .str T) (by rw [hT]; exact con_ok) (args1 (p := knsV K) (pTup (pa1 con_ok (pa1 con_ok (pa1 con_ok (pa1 con_ok args0)))) (by show (4 : Nat) ≤ 100000; decide)) args0)) (by simp)) ?_) rfl
  rw [eqD_dd (d := .list [.str T, .tuple (K.map kd)]) (e := .list [.str T, .tuple (K.map kd)]) rfl rfl (by rw [hT]; decide +kernel) (by rw [hT]; decide +kernel) rfl]
  have he : PyData.eqv (.list [.str "2b0", .tuple [.int 1, .none, .int 1, .none]]) (.list [.str "2b0", .tuple [.int 1, .none, .int 1, .none]]) = true := by decide +kernel
  rw [hT]
  show Res.ok (PV.bl (PyData.eqv (.list [.str "2b0", .tuple [.int 1, .none, .int 1, .none]]) (.list [.str "2b0", .tuple [.int 1, .none, .int 1, .none]]) != false)) s = _
  rw [he]; rfl

end K53
end CD

set_option Elab.async false
set_option linter.all false
set_option maxRecDepth 100000
set_option maxHeartbeats 4000000
namespace CD
open PySem PySem.Spec PyProof.Rows L2 RZ StX ClX
namespace K53
/-! ### what the top has written; the law's own head -/
theorem all_mk {l : PySem.W.OpenLaw} {w : World} {K : PySem.W.Frag} {h : Heap} {mg : Str → Option Value} {fa : Addr} (X : K.In h) (G : h.Ns mainGlobals mg) (hfa : mg "law" = some (.ref fa))
    {g__law_coin : Addr} {oc__law_coin kV__law_coin dc__law_coin pm__law_coin cd__law_coin ct__law_coin : Value} {od__law_coin an__law_coin : Option Addr} {sl__law_coin : Array (Option Value)}
    {g__law_purse : Addr} {oc__law_purse kV__law_purse dc__law_purse pm__law_purse cd__law_purse ct__law_purse : Value} {od__law_purse an__law_purse : Option Addr} {sl__law_purse : Array (Option Value)}
    {g__law_signs : Addr} {oc__law_signs kV__law_signs dc__law_signs pm__law_signs cd__law_signs ct__law_signs : Value} {od__law_signs an__law_signs : Option Addr} {sl__law_signs : Array (Option Value)}
    {g_fits_places : Addr} {oc_fits_places kV_fits_places dc_fits_places pm_fits_places cd_fits_places ct_fits_places : Value} {od_fits_places an_fits_places : Option Addr} {sl_fits_places : Array (Option Value)}
    {g_is_integer : Addr} {oc_is_integer kV_is_integer dc_is_integer pm_is_integer cd_is_integer ct_is_integer : Value} {od_is_integer an_is_integer : Option Addr} {sl_is_integer : Array (Option Value)}
    {g_is_integer_within : Addr} {oc_is_integer_within kV_is_integer_within dc_is_integer_within pm_is_integer_within cd_is_integer_within ct_is_integer_within : Value} {od_is_integer_within an_is_integer_within : Option Addr} {sl_is_integer_within : Array (Option Value)}
    {g_sign_of : Addr} {oc_sign_of kV_sign_of dc_sign_of pm_sign_of cd_sign_of ct_sign_of : Value} {od_sign_of an_sign_of : Option Addr} {sl_sign_of : Array (Option Value)}
    {g_text_of : Addr} {oc_text_of kV_text_of dc_text_of pm_text_of cd_text_of ct_text_of : Value} {od_text_of an_text_of : Option Addr} {sl_text_of : Array (Option Value)}
    {g_format_code : Addr} {oc_format_code kV_format_code dc_format_code pm_format_code cd_format_code ct_format_code : Value} {od_format_code an_format_code : Option Addr} {sl_format_code : Array (Option Value)}
    {g_is_base : Addr} {oc_is_base kV_is_base dc_is_base pm_is_base cd_is_base ct_is_base : Value} {od_is_base an_is_base : Option Addr} {sl_is_base : Array (Option Value)}
    {g_check_base : Addr} {oc_check_base kV_check_base dc_check_base pm_check_base cd_check_base ct_check_base : Value} {od_check_base an_check_base : Option Addr} {sl_check_base : Array (Option Value)}
    {g_check_signs : Addr} {oc_check_signs kV_check_signs dc_check_signs pm_check_signs cd_check_signs ct_check_signs : Value} {od_check_signs an_check_signs : Option Addr} {sl_check_signs : Array (Option Value)}
    {g_check_text : Addr} {oc_check_text kV_check_text dc_check_text pm_check_text cd_check_text ct_check_text : Value} {od_check_text an_check_text : Option Addr} {sl_check_text : Array (Option Value)}
    {g_digits_of : Addr} {oc_digits_of kV_digits_of dc_digits_of pm_digits_of cd_digits_of ct_digits_of : Value} {od_digits_of an_digits_of : Option Addr} {sl_digits_of : Array (Option Value)}
    {g_parse_code : Addr} {oc_parse_code kV_parse_code dc_parse_code pm_parse_code cd_parse_code ct_parse_code : Value} {od_parse_code an_parse_code : Option Addr} {sl_parse_code : Array (Option Value)}
    {g_parse_partial : Addr} {oc_parse_partial kV_parse_partial dc_parse_partial pm_parse_partial cd_parse_partial ct_parse_partial : Value} {od_parse_partial an_parse_partial : Option Addr} {sl_parse_partial : Array (Option Value)}
    {g__law_right : Addr} {oc__law_right kV__law_right dc__law_right pm__law_right cd__law_right ct__law_right : Value} {od__law_right an__law_right : Option Addr} {sl__law_right : Array (Option Value)}
    {g_law : Addr} {oc_law kV_law dc_law pm_law cd_law ct_law : Value} {od_law an_law : Option Addr} {sl_law : Array (Option Value)}
    {C_Rule : Addr}
    {t_Rule_MOST_PLACES : Tok}
    {t_DIGIT_SIGNS : Tok}
    {t_GREATEST_BASE : Tok}
    {t_LEAST_BASE : Tok}
    {t_UNKNOWN_SIGN : Tok}
    (h_aC_Rule : PySem.W.nsIn K mainGlobals "Rule" = some (some (.ref C_Rule)))
    (h_a__law_coin : PySem.W.nsIn K mainGlobals "_law_coin" = some (some (.ref g__law_coin)))
    (h_l__law_coin : K.lookup g__law_coin = some ⟨oc__law_coin, od__law_coin, .func (PySem.W.fnOf "_law_coin" "_law_coin" (defArgs S__law_coin) (defBody S__law_coin) (defScope S__law_coin) .none kV__law_coin dc__law_coin pm__law_coin an__law_coin cd__law_coin ct__law_coin), sl__law_coin⟩)
    (h_c__law_coin : PySem.W.codeIn K cd__law_coin "_law_coin" = true)
    (h_k__law_coin : PySem.W.keepIn K (.ref g__law_coin) = true)
    (h_a__law_purse : PySem.W.nsIn K mainGlobals "_law_purse" = some (some (.ref g__law_purse)))
    (h_l__law_purse : K.lookup g__law_purse = some ⟨oc__law_purse, od__law_purse, .func (PySem.W.fnOf "_law_purse" "_law_purse" (defArgs S__law_purse) (defBody S__law_purse) (defScope S__law_purse) .none kV__law_purse dc__law_purse pm__law_purse an__law_purse cd__law_purse ct__law_purse), sl__law_purse⟩)
    (h_c__law_purse : PySem.W.codeIn K cd__law_purse "_law_purse" = true)
    (h_k__law_purse : PySem.W.keepIn K (.ref g__law_purse) = true)
    (h_a__law_signs : PySem.W.nsIn K mainGlobals "_law_signs" = some (some (.ref g__law_signs)))
    (h_l__law_signs : K.lookup g__law_signs = some ⟨oc__law_signs, od__law_signs, .func (PySem.W.fnOf "_law_signs" "_law_signs" (defArgs S__law_signs) (defBody S__law_signs) (defScope S__law_signs) .none kV__law_signs dc__law_signs pm__law_signs an__law_signs cd__law_signs ct__law_signs), sl__law_signs⟩)
    (h_c__law_signs : PySem.W.codeIn K cd__law_signs "_law_signs" = true)
    (h_k__law_signs : PySem.W.keepIn K (.ref g__law_signs) = true)
    (h_a_fits_places : PySem.W.nsIn K mainGlobals "fits_places" = some (some (.ref g_fits_places)))
    (h_l_fits_places : K.lookup g_fits_places = some ⟨oc_fits_places, od_fits_places, .func (PySem.W.fnOf "fits_places" "fits_places" (defArgs S_fits_places) (defBody S_fits_places) (defScope S_fits_places) .none kV_fits_places dc_fits_places pm_fits_places an_fits_places cd_fits_places ct_fits_places), sl_fits_places⟩)
    (h_c_fits_places : PySem.W.codeIn K cd_fits_places "fits_places" = true)
    (h_k_fits_places : PySem.W.keepIn K (.ref g_fits_places) = true)
    (h_a_is_integer : PySem.W.nsIn K mainGlobals "is_integer" = some (some (.ref g_is_integer)))
    (h_l_is_integer : K.lookup g_is_integer = some ⟨oc_is_integer, od_is_integer, .func (PySem.W.fnOf "is_integer" "is_integer" (defArgs S_is_integer) (defBody S_is_integer) (defScope S_is_integer) .none kV_is_integer dc_is_integer pm_is_integer an_is_integer cd_is_integer ct_is_integer), sl_is_integer⟩)
    (h_c_is_integer : PySem.W.codeIn K cd_is_integer "is_integer" = true)
    (h_k_is_integer : PySem.W.keepIn K (.ref g_is_integer) = true)
    (h_a_is_integer_within : PySem.W.nsIn K mainGlobals "is_integer_within" = some (some (.ref g_is_integer_within)))
    (h_l_is_integer_within : K.lookup g_is_integer_within = some ⟨oc_is_integer_within, od_is_integer_within, .func (PySem.W.fnOf "is_integer_within" "is_integer_within" (defArgs S_is_integer_within) (defBody S_is_integer_within) (defScope S_is_integer_within) .none kV_is_integer_within dc_is_integer_within pm_is_integer_within an_is_integer_within cd_is_integer_within ct_is_integer_within), sl_is_integer_within⟩)
    (h_c_is_integer_within : PySem.W.codeIn K cd_is_integer_within "is_integer_within" = true)
    (h_k_is_integer_within : PySem.W.keepIn K (.ref g_is_integer_within) = true)
    (h_a_sign_of : PySem.W.nsIn K mainGlobals "sign_of" = some (some (.ref g_sign_of)))
    (h_l_sign_of : K.lookup g_sign_of = some ⟨oc_sign_of, od_sign_of, .func (PySem.W.fnOf "sign_of" "sign_of" (defArgs S_sign_of) (defBody S_sign_of) (defScope S_sign_of) .none kV_sign_of dc_sign_of pm_sign_of an_sign_of cd_sign_of ct_sign_of), sl_sign_of⟩)
    (h_c_sign_of : PySem.W.codeIn K cd_sign_of "sign_of" = true)
    (h_k_sign_of : PySem.W.keepIn K (.ref g_sign_of) = true)
    (h_a_text_of : PySem.W.nsIn K mainGlobals "text_of" = some (some (.ref g_text_of)))
    (h_l_text_of : K.lookup g_text_of = some ⟨oc_text_of, od_text_of, .func (PySem.W.fnOf "text_of" "text_of" (defArgs S_text_of) (defBody S_text_of) (defScope S_text_of) .none kV_text_of dc_text_of pm_text_of an_text_of cd_text_of ct_text_of), sl_text_of⟩)
    (h_c_text_of : PySem.W.codeIn K cd_text_of "text_of" = true)
    (h_k_text_of : PySem.W.keepIn K (.ref g_text_of) = true)
    (h_a_format_code : PySem.W.nsIn K mainGlobals "format_code" = some (some (.ref g_format_code)))
    (h_l_format_code : K.lookup g_format_code = some ⟨oc_format_code, od_format_code, .func (PySem.W.fnOf "format_code" "format_code" (defArgs S_format_code) (defBody S_format_code) (defScope S_format_code) .none kV_format_code dc_format_code pm_format_code an_format_code cd_format_code ct_format_code), sl_format_code⟩)
    (h_c_format_code : PySem.W.codeIn K cd_format_code "format_code" = true)
    (h_k_format_code : PySem.W.keepIn K (.ref g_format_code) = true)
    (h_a_is_base : PySem.W.nsIn K mainGlobals "is_base" = some (some (.ref g_is_base)))
    (h_l_is_base : K.lookup g_is_base = some ⟨oc_is_base, od_is_base, .func (PySem.W.fnOf "is_base" "is_base" (defArgs S_is_base) (defBody S_is_base) (defScope S_is_base) .none kV_is_base dc_is_base pm_is_base an_is_base cd_is_base ct_is_base), sl_is_base⟩)
    (h_c_is_base : PySem.W.codeIn K cd_is_base "is_base" = true)
    (h_k_is_base : PySem.W.keepIn K (.ref g_is_base) = true)
    (h_a_check_base : PySem.W.nsIn K mainGlobals "check_base" = some (some (.ref g_check_base)))
    (h_l_check_base : K.lookup g_check_base = some ⟨oc_check_base, od_check_base, .func (PySem.W.fnOf "check_base" "check_base" (defArgs S_check_base) (defBody S_check_base) (defScope S_check_base) .none kV_check_base dc_check_base pm_check_base an_check_base cd_check_base ct_check_base), sl_check_base⟩)
    (h_c_check_base : PySem.W.codeIn K cd_check_base "check_base" = true)
    (h_k_check_base : PySem.W.keepIn K (.ref g_check_base) = true)
    (h_a_check_signs : PySem.W.nsIn K mainGlobals "check_signs" = some (some (.ref g_check_signs)))
    (h_l_check_signs : K.lookup g_check_signs = some ⟨oc_check_signs, od_check_signs, .func (PySem.W.fnOf "check_signs" "check_signs" (defArgs S_check_signs) (defBody S_check_signs) (defScope S_check_signs) .none kV_check_signs dc_check_signs pm_check_signs an_check_signs cd_check_signs ct_check_signs), sl_check_signs⟩)
    (h_c_check_signs : PySem.W.codeIn K cd_check_signs "check_signs" = true)
    (h_k_check_signs : PySem.W.keepIn K (.ref g_check_signs) = true)
    (h_a_check_text : PySem.W.nsIn K mainGlobals "check_text" = some (some (.ref g_check_text)))
    (h_l_check_text : K.lookup g_check_text = some ⟨oc_check_text, od_check_text, .func (PySem.W.fnOf "check_text" "check_text" (defArgs S_check_text) (defBody S_check_text) (defScope S_check_text) .none kV_check_text dc_check_text pm_check_text an_check_text cd_check_text ct_check_text), sl_check_text⟩)
    (h_c_check_text : PySem.W.codeIn K cd_check_text "check_text" = true)
    (h_k_check_text : PySem.W.keepIn K (.ref g_check_text) = true)
    (h_a_digits_of : PySem.W.nsIn K mainGlobals "digits_of" = some (some (.ref g_digits_of)))
    (h_l_digits_of : K.lookup g_digits_of = some ⟨oc_digits_of, od_digits_of, .func (PySem.W.fnOf "digits_of" "digits_of" (defArgs S_digits_of) (defBody S_digits_of) (defScope S_digits_of) .none kV_digits_of dc_digits_of pm_digits_of an_digits_of cd_digits_of ct_digits_of), sl_digits_of⟩)
    (h_c_digits_of : PySem.W.codeIn K cd_digits_of "digits_of" = true)
    (h_k_digits_of : PySem.W.keepIn K (.ref g_digits_of) = true)
    (h_a_parse_code : PySem.W.nsIn K mainGlobals "parse_code" = some (some (.ref g_parse_code)))
    (h_l_parse_code : K.lookup g_parse_code = some ⟨oc_parse_code, od_parse_code, .func (PySem.W.fnOf "parse_code" "parse_code" (defArgs S_parse_code) (defBody S_parse_code) (defScope S_parse_code) .none kV_parse_code dc_parse_code pm_parse_code an_parse_code cd_parse_code ct_parse_code), sl_parse_code⟩)
    (h_c_parse_code : PySem.W.codeIn K cd_parse_code "parse_code" = true)
    (h_k_parse_code : PySem.W.keepIn K (.ref g_parse_code) = true)
    (h_a_parse_partial : PySem.W.nsIn K mainGlobals "parse_partial" = some (some (.ref g_parse_partial)))
    (h_l_parse_partial : K.lookup g_parse_partial = some ⟨oc_parse_partial, od_parse_partial, .func (PySem.W.fnOf "parse_partial" "parse_partial" (defArgs S_parse_partial) (defBody S_parse_partial) (defScope S_parse_partial) .none kV_parse_partial dc_parse_partial pm_parse_partial an_parse_partial cd_parse_partial ct_parse_partial), sl_parse_partial⟩)
    (h_c_parse_partial : PySem.W.codeIn K cd_parse_partial "parse_partial" = true)
    (h_k_parse_partial : PySem.W.keepIn K (.ref g_parse_partial) = true)
    (h_a__law_right : PySem.W.nsIn K mainGlobals "_law_right" = some (some (.ref g__law_right)))
    (h_l__law_right : K.lookup g__law_right = some ⟨oc__law_right, od__law_right, .func (PySem.W.fnOf "_law_right" "_law_right" (defArgs S__law_right) (defBody S__law_right) (defScope S__law_right) .none kV__law_right dc__law_right pm__law_right an__law_right cd__law_right ct__law_right), sl__law_right⟩)
    (h_c__law_right : PySem.W.codeIn K cd__law_right "_law_right" = true)
    (h_k__law_right : PySem.W.keepIn K (.ref g__law_right) = true)
    (h_a_law : PySem.W.nsIn K mainGlobals "law" = some (some (.ref g_law)))
    (h_l_law : K.lookup g_law = some ⟨oc_law, od_law, .func (PySem.W.fnOf "law" "law" (defArgs S_law) (defBody S_law) (defScope S_law) .none kV_law dc_law pm_law an_law cd_law ct_law), sl_law⟩)
    (h_c_law : PySem.W.codeIn K cd_law "law" = true)
    (h_k_law : PySem.W.keepIn K (.ref g_law) = true)
    (h_pg_Rule : PySem.W.plainGet K C_Rule Str.empty = true)
    (h_hd_Rule : PySem.W.hasDictIn K C_Rule = true)
    (h_po_Rule : PySem.W.plainOver K C_Rule = true)
    (h_sa_Rule : PySem.W.findIn K (.ref C_Rule) "__setattr__" = some (some (.builtin "object.__setattr__")))
    (h_mk_Rule : PySem.W.makesIn K C_Rule = true)
    (h_kc_Rule : PySem.W.keepIn K (.ref C_Rule) = true)
    (h_ic_Rule : PySem.W.isClsIn K C_Rule = true)
    (h_ty_Rule : PySem.W.typeIn K (.ref C_Rule) = some (.type "type"))
    (h_cl_Rule : PySem.W.findIn K (.ref C_Rule) "__class__" = some (some (.builtin "object.__class__")))
    (h_mo_Rule : PySem.W.mroIn K C_Rule (.type "object") = some true)
    (h_sp_Rule : PySem.W.specialIn K (.builtin "object.__class__") "__get__" = some (some (.builtin "getset_descriptor.__get__")))
    (h_tk_Rule : PySem.W.takesIn K (.builtin "object.__class__") = some true)
    (h_ob_Rule_NoneType : PySem.W.subIn K (.ref C_Rule) (.type "NoneType") = some false)
    (h_bo_Rule_NoneType : PySem.W.subIn K (.type "NoneType") (.ref C_Rule) = some false)
    (h_ob_Rule_bool : PySem.W.subIn K (.ref C_Rule) (.type "bool") = some false)
    (h_bo_Rule_bool : PySem.W.subIn K (.type "bool") (.ref C_Rule) = some false)
    (h_ob_Rule_int : PySem.W.subIn K (.ref C_Rule) (.type "int") = some false)
    (h_bo_Rule_int : PySem.W.subIn K (.type "int") (.ref C_Rule) = some false)
    (h_ob_Rule_str : PySem.W.subIn K (.ref C_Rule) (.type "str") = some false)
    (h_bo_Rule_str : PySem.W.subIn K (.type "str") (.ref C_Rule) = some false)
    (h_ob_Rule_tuple : PySem.W.subIn K (.ref C_Rule) (.type "tuple") = some false)
    (h_bo_Rule_tuple : PySem.W.subIn K (.type "tuple") (.ref C_Rule) = some false)
    (h_ob_Rule_list : PySem.W.subIn K (.ref C_Rule) (.type "list") = some false)
    (h_bo_Rule_list : PySem.W.subIn K (.type "list") (.ref C_Rule) = some false)
    (h_ob_Rule_dict : PySem.W.subIn K (.ref C_Rule) (.type "dict") = some false)
    (h_bo_Rule_dict : PySem.W.subIn K (.type "dict") (.ref C_Rule) = some false)
    (h_n_Rule__modulus : PySem.W.findIn K (.ref C_Rule) "_modulus" = some none)
    (h_n_Rule__rows : PySem.W.findIn K (.ref C_Rule) "_rows" = some none)
    (h_n_Rule__remainder : PySem.W.findIn K (.ref C_Rule) "_remainder" = some none)
    (h_rd_Rule_MOST_PLACES : PySem.W.readsIn K C_Rule (.type "type") = true)
    (h_ga_Rule_MOST_PLACES : PySem.W.specialIn K (.ref C_Rule) "__getattribute__" = some (some (.builtin "type.__getattribute__")))
    (h_fc_Rule_MOST_PLACES : PySem.W.findCls K (.ref C_Rule) (.type "type") "MOST_PLACES" = some (.val (.int 30 t_Rule_MOST_PLACES)))
    (h_v_DIGIT_SIGNS : PySem.W.nsIn K mainGlobals "DIGIT_SIGNS" = some (some (.str "0123456789abcdefghijklmnopqrstuvwxyz" t_DIGIT_SIGNS)))
    (h_v_GREATEST_BASE : PySem.W.nsIn K mainGlobals "GREATEST_BASE" = some (some (.int 36 t_GREATEST_BASE)))
    (h_v_LEAST_BASE : PySem.W.nsIn K mainGlobals "LEAST_BASE" = some (some (.int 2 t_LEAST_BASE)))
    (h_v_UNKNOWN_SIGN : PySem.W.nsIn K mainGlobals "UNKNOWN_SIGN" = some (some (.str "?" t_UNKNOWN_SIGN)))
    (h_z_abs : PySem.W.nsIn K mainGlobals "abs" = some none)
    (h_z_all : PySem.W.nsIn K mainGlobals "all" = some none)
    (h_z_bool : PySem.W.nsIn K mainGlobals "bool" = some none)
    (h_z_enumerate : PySem.W.nsIn K mainGlobals "enumerate" = some none)
    (h_z_int : PySem.W.nsIn K mainGlobals "int" = some none)
    (h_z_isinstance : PySem.W.nsIn K mainGlobals "isinstance" = some none)
    (h_z_len : PySem.W.nsIn K mainGlobals "len" = some none)
    (h_z_list : PySem.W.nsIn K mainGlobals "list" = some none)
    (h_z_max : PySem.W.nsIn K mainGlobals "max" = some none)
    (h_z_min : PySem.W.nsIn K mainGlobals "min" = some none)
    (h_z_range : PySem.W.nsIn K mainGlobals "range" = some none)
    (h_z_repr : PySem.W.nsIn K mainGlobals "repr" = some none)
    (h_z_str : PySem.W.nsIn K mainGlobals "str" = some none)
    (h_z_tuple : PySem.W.nsIn K mainGlobals "tuple" = some none)
    (ht : ∀ ns : List Int, ns.length ≤ 63 → ∃ st, F_law [.rls (ns.map .int)] [] = .ok (.bl true) st) :
    ∃ fd : FuncData, (∀ (s : Shared) (v : Value), BindsTo s fd ⟨[v], []⟩ [("script", v)]) ∧ ∀ base : Heap, K.In base → base.Ns mainGlobals mg → FnG l.prog w K mg base (L2N.CX l.prog w) L_law fa fd ["script"] (spL K) := by
  have e : fa = g_law := ref_of (PySem.W.mg_of X G h_a_law) hfa
  rw [e]
  let A : Adr := {
    g__law_coin := g__law_coin,
    f__law_coin := (PySem.W.fnOf "_law_coin" "_law_coin" (defArgs S__law_coin) (defBody S__law_coin) (defScope S__law_coin) .none kV__law_coin dc__law_coin pm__law_coin an__law_coin cd__law_coin ct__law_coin),
    g__law_purse := g__law_purse,
    f__law_purse := (PySem.W.fnOf "_law_purse" "_law_purse" (defArgs S__law_purse) (defBody S__law_purse) (defScope S__law_purse) .none kV__law_purse dc__law_purse pm__law_purse an__law_purse cd__law_purse ct__law_purse),
    g__law_signs := g__law_signs,
    f__law_signs := (PySem.W.fnOf "_law_signs" "_law_signs" (defArgs S__law_signs) (defBody S__law_signs) (defScope S__law_signs) .none kV__law_signs dc__law_signs pm__law_signs an__law_signs cd__law_signs ct__law_signs),
    g_fits_places := g_fits_places,
    f_fits_places := (PySem.W.fnOf "fits_places" "fits_places" (defArgs S_fits_places) (defBody S_fits_places) (defScope S_fits_places) .none kV_fits_places dc_fits_places pm_fits_places an_fits_places cd_fits_places ct_fits_places),
    g_is_integer := g_is_integer,
    f_is_integer := (PySem.W.fnOf "is_integer" "is_integer" (defArgs S_is_integer) (defBody S_is_integer) (defScope S_is_integer) .none kV_is_integer dc_is_integer pm_is_integer an_is_integer cd_is_integer ct_is_integer),
    g_is_integer_within := g_is_integer_within,
    f_is_integer_within := (PySem.W.fnOf "is_integer_within" "is_integer_within" (defArgs S_is_integer_within) (defBody S_is_integer_within) (defScope S_is_integer_within) .none kV_is_integer_within dc_is_integer_within pm_is_integer_within an_is_integer_within cd_is_integer_within ct_is_integer_within),
    g_sign_of := g_sign_of,
    f_sign_of := (PySem.W.fnOf "sign_of" "sign_of" (defArgs S_sign_of) (defBody S_sign_of) (defScope S_sign_of) .none kV_sign_of dc_sign_of pm_sign_of an_sign_of cd_sign_of ct_sign_of),
    g_text_of := g_text_of,
    f_text_of := (PySem.W.fnOf "text_of" "text_of" (defArgs S_text_of) (defBody S_text_of) (defScope S_text_of) .none kV_text_of dc_text_of pm_text_of an_text_of cd_text_of ct_text_of),
    g_format_code := g_format_code,
    f_format_code := (PySem.W.fnOf "format_code" "format_code" (defArgs S_format_code) (defBody S_format_code) (defScope S_format_code) .none kV_format_code dc_format_code pm_format_code an_format_code cd_format_code ct_format_code),
    g_is_base := g_is_base,
    f_is_base := (PySem.W.fnOf "is_base" "is_base" (defArgs S_is_base) (defBody S_is_base) (defScope S_is_base) .none kV_is_base dc_is_base pm_is_base an_is_base cd_is_base ct_is_base),
    g_check_base := g_check_base,
    f_check_base := (PySem.W.fnOf "check_base" "check_base" (defArgs S_check_base) (defBody S_check_base) (defScope S_check_base) .none kV_check_base dc_check_base pm_check_base an_check_base cd_check_base ct_check_base),
    g_check_signs := g_check_signs,
    f_check_signs := (PySem.W.fnOf "check_signs" "check_signs" (defArgs S_check_signs) (defBody S_check_signs) (defScope S_check_signs) .none kV_check_signs dc_check_signs pm_check_signs an_check_signs cd_check_signs ct_check_signs),
    g_check_text := g_check_text,
    f_check_text := (PySem.W.fnOf "check_text" "check_text" (defArgs S_check_text) (defBody S_check_text) (defScope S_check_text) .none kV_check_text dc_check_text pm_check_text an_check_text cd_check_text ct_check_text),
    g_digits_of := g_digits_of,
    f_digits_of := (PySem.W.fnOf "digits_of" "digits_of" (defArgs S_digits_of) (defBody S_digits_of) (defScope S_digits_of) .none kV_digits_of dc_digits_of pm_digits_of an_digits_of cd_digits_of ct_digits_of),
    g_parse_code := g_parse_code,
    f_parse_code := (PySem.W.fnOf "parse_code" "parse_code" (defArgs S_parse_code) (defBody S_parse_code) (defScope S_parse_code) .none kV_parse_code dc_parse_code pm_parse_code an_parse_code cd_parse_code ct_parse_code),
    g_parse_partial := g_parse_partial,
    f_parse_partial := (PySem.W.fnOf "parse_partial" "parse_partial" (defArgs S_parse_partial) (defBody S_parse_partial) (defScope S_parse_partial) .none kV_parse_partial dc_parse_partial pm_parse_partial an_parse_partial cd_parse_partial ct_parse_partial),
    g__law_right := g__law_right,
    f__law_right := (PySem.W.fnOf "_law_right" "_law_right" (defArgs S__law_right) (defBody S__law_right) (defScope S__law_right) .none kV__law_right dc__law_right pm__law_right an__law_right cd__law_right ct__law_right),
    g_law := g_law,
    f_law := (PySem.W.fnOf "law" "law" (defArgs S_law) (defBody S_law) (defScope S_law) .none kV_law dc_law pm_law an_law cd_law ct_law),
    C_Rule := C_Rule,
    t_DIGIT_SIGNS := t_DIGIT_SIGNS,
    t_GREATEST_BASE := t_GREATEST_BASE,
    t_LEAST_BASE := t_LEAST_BASE,
    t_UNKNOWN_SIGN := t_UNKNOWN_SIGN }
  have F__law_coin' : Fun K "_law_coin" "_law_coin" S__law_coin g__law_coin (PySem.W.fnOf "_law_coin" "_law_coin" (defArgs S__law_coin) (defBody S__law_coin) (defScope S__law_coin) .none kV__law_coin dc__law_coin pm__law_coin an__law_coin cd__law_coin ct__law_coin) := fun_mk (st := S__law_coin) h_l__law_coin h_c__law_coin h_k__law_coin
  have B__law_coin' : Binds K (PySem.W.fnOf "_law_coin" "_law_coin" (defArgs S__law_coin) (defBody S__law_coin) (defScope S__law_coin) .none kV__law_coin dc__law_coin pm__law_coin an__law_coin cd__law_coin ct__law_coin) ["purse", "many"] [] := F__law_coin'.binds (ps := ["purse", "many"]) fun _ _ _ _ _ _ us hl => match us, hl with | [_, _], _ => rfl
  have F__law_purse' : Fun K "_law_purse" "_law_purse" S__law_purse g__law_purse (PySem.W.fnOf "_law_purse" "_law_purse" (defArgs S__law_purse) (defBody S__law_purse) (defScope S__law_purse) .none kV__law_purse dc__law_purse pm__law_purse an__law_purse cd__law_purse ct__law_purse) := fun_mk (st := S__law_purse) h_l__law_purse h_c__law_purse h_k__law_purse
  have B__law_purse' : Binds K (PySem.W.fnOf "_law_purse" "_law_purse" (defArgs S__law_purse) (defBody S__law_purse) (defScope S__law_purse) .none kV__law_purse dc__law_purse pm__law_purse an__law_purse cd__law_purse ct__law_purse) ["script", "k"] [] := F__law_purse'.binds (ps := ["script", "k"]) fun _ _ _ _ _ _ us hl => match us, hl with | [_, _], _ => rfl
  have F__law_signs' : Fun K "_law_signs" "_law_signs" S__law_signs g__law_signs (PySem.W.fnOf "_law_signs" "_law_signs" (defArgs S__law_signs) (defBody S__law_signs) (defScope S__law_signs) .none kV__law_signs dc__law_signs pm__law_signs an__law_signs cd__law_signs ct__law_signs) := fun_mk (st := S__law_signs) h_l__law_signs h_c__law_signs h_k__law_signs
  have B__law_signs' : Binds K (PySem.W.fnOf "_law_signs" "_law_signs" (defArgs S__law_signs) (defBody S__law_signs) (defScope S__law_signs) .none kV__law_signs dc__law_signs pm__law_signs an__law_signs cd__law_signs ct__law_signs) ["digits"] [] := F__law_signs'.binds (ps := ["digits"]) fun _ _ _ _ _ _ us hl => match us, hl with | [_], _ => rfl
  have F_fits_places' : Fun K "fits_places" "fits_places" S_fits_places g_fits_places (PySem.W.fnOf "fits_places" "fits_places" (defArgs S_fits_places) (defBody S_fits_places) (defScope S_fits_places) .none kV_fits_places dc_fits_places pm_fits_places an_fits_places cd_fits_places ct_fits_places) := fun_mk (st := S_fits_places) h_l_fits_places h_c_fits_places h_k_fits_places
  have B_fits_places' : Binds K (PySem.W.fnOf "fits_places" "fits_places" (defArgs S_fits_places) (defBody S_fits_places) (defScope S_fits_places) .none kV_fits_places dc_fits_places pm_fits_places an_fits_places cd_fits_places ct_fits_places) ["value"] [] := F_fits_places'.binds (ps := ["value"]) fun _ _ _ _ _ _ us hl => match us, hl with | [_], _ => rfl
  have F_is_integer' : Fun K "is_integer" "is_integer" S_is_integer g_is_integer (PySem.W.fnOf "is_integer" "is_integer" (defArgs S_is_integer) (defBody S_is_integer) (defScope S_is_integer) .none kV_is_integer dc_is_integer pm_is_integer an_is_integer cd_is_integer ct_is_integer) := fun_mk (st := S_is_integer) h_l_is_integer h_c_is_integer h_k_is_integer
  have B_is_integer' : Binds K (PySem.W.fnOf "is_integer" "is_integer" (defArgs S_is_integer) (defBody S_is_integer) (defScope S_is_integer) .none kV_is_integer dc_is_integer pm_is_integer an_is_integer cd_is_integer ct_is_integer) ["value"] [] := F_is_integer'.binds (ps := ["value"]) fun _ _ _ _ _ _ us hl => match us, hl with | [_], _ => rfl
  have F_is_integer_within' : Fun K "is_integer_within" "is_integer_within" S_is_integer_within g_is_integer_within (PySem.W.fnOf "is_integer_within" "is_integer_within" (defArgs S_is_integer_within) (defBody S_is_integer_within) (defScope S_is_integer_within) .none kV_is_integer_within dc_is_integer_within pm_is_integer_within an_is_integer_within cd_is_integer_within ct_is_integer_within) := fun_mk (st := S_is_integer_within) h_l_is_integer_within h_c_is_integer_within h_k_is_integer_within
  have B_is_integer_within' : Binds K (PySem.W.fnOf "is_integer_within" "is_integer_within" (defArgs S_is_integer_within) (defBody S_is_integer_within) (defScope S_is_integer_within) .none kV_is_integer_within dc_is_integer_within pm_is_integer_within an_is_integer_within cd_is_integer_within ct_is_integer_within) ["value", "least", "greatest"] [] := F_is_integer_within'.binds (ps := ["value", "least", "greatest"]) fun _ _ _ _ _ _ us hl => match us, hl with | [_, _, _], _ => rfl
  have F_sign_of' : Fun K "sign_of" "sign_of" S_sign_of g_sign_of (PySem.W.fnOf "sign_of" "sign_of" (defArgs S_sign_of) (defBody S_sign_of) (defScope S_sign_of) .none kV_sign_of dc_sign_of pm_sign_of an_sign_of cd_sign_of ct_sign_of) := fun_mk (st := S_sign_of) h_l_sign_of h_c_sign_of h_k_sign_of
  have B_sign_of' : Binds K (PySem.W.fnOf "sign_of" "sign_of" (defArgs S_sign_of) (defBody S_sign_of) (defScope S_sign_of) .none kV_sign_of dc_sign_of pm_sign_of an_sign_of cd_sign_of ct_sign_of) ["digit"] [] := F_sign_of'.binds (ps := ["digit"]) fun _ _ _ _ _ _ us hl => match us, hl with | [_], _ => rfl
  have F_text_of' : Fun K "text_of" "text_of" S_text_of g_text_of (PySem.W.fnOf "text_of" "text_of" (defArgs S_text_of) (defBody S_text_of) (defScope S_text_of) .none kV_text_of dc_text_of pm_text_of an_text_of cd_text_of ct_text_of) := fun_mk (st := S_text_of) h_l_text_of h_c_text_of h_k_text_of
  have B_text_of' : Binds K (PySem.W.fnOf "text_of" "text_of" (defArgs S_text_of) (defBody S_text_of) (defScope S_text_of) .none kV_text_of dc_text_of pm_text_of an_text_of cd_text_of ct_text_of) ["digits"] [] := F_text_of'.binds (ps := ["digits"]) fun _ _ _ _ _ _ us hl => match us, hl with | [_], _ => rfl
  have F_format_code' : Fun K "format_code" "format_code" S_format_code g_format_code (PySem.W.fnOf "format_code" "format_code" (defArgs S_format_code) (defBody S_format_code) (defScope S_format_code) .none kV_format_code dc_format_code pm_format_code an_format_code cd_format_code ct_format_code) := fun_mk (st := S_format_code) h_l_format_code h_c_format_code h_k_format_code
  have B_format_code' : Binds K (PySem.W.fnOf "format_code" "format_code" (defArgs S_format_code) (defBody S_format_code) (defScope S_format_code) .none kV_format_code dc_format_code pm_format_code an_format_code cd_format_code ct_format_code) ["code"] [] := F_format_code'.binds (ps := ["code"]) fun _ _ _ _ _ _ us hl => match us, hl with | [_], _ => rfl
  have F_is_base' : Fun K "is_base" "is_base" S_is_base g_is_base (PySem.W.fnOf "is_base" "is_base" (defArgs S_is_base) (defBody S_is_base) (defScope S_is_base) .none kV_is_base dc_is_base pm_is_base an_is_base cd_is_base ct_is_base) := fun_mk (st := S_is_base) h_l_is_base h_c_is_base h_k_is_base
  have B_is_base' : Binds K (PySem.W.fnOf "is_base" "is_base" (defArgs S_is_base) (defBody S_is_base) (defScope S_is_base) .none kV_is_base dc_is_base pm_is_base an_is_base cd_is_base ct_is_base) ["value"] [] := F_is_base'.binds (ps := ["value"]) fun _ _ _ _ _ _ us hl => match us, hl with | [_], _ => rfl
  have F_check_base' : Fun K "check_base" "check_base" S_check_base g_check_base (PySem.W.fnOf "check_base" "check_base" (defArgs S_check_base) (defBody S_check_base) (defScope S_check_base) .none kV_check_base dc_check_base pm_check_base an_check_base cd_check_base ct_check_base) := fun_mk (st := S_check_base) h_l_check_base h_c_check_base h_k_check_base
  have B_check_base' : Binds K (PySem.W.fnOf "check_base" "check_base" (defArgs S_check_base) (defBody S_check_base) (defScope S_check_base) .none kV_check_base dc_check_base pm_check_base an_check_base cd_check_base ct_check_base) ["base"] [] := F_check_base'.binds (ps := ["base"]) fun _ _ _ _ _ _ us hl => match us, hl with | [_], _ => rfl
  have F_check_signs' : Fun K "check_signs" "check_signs" S_check_signs g_check_signs (PySem.W.fnOf "check_signs" "check_signs" (defArgs S_check_signs) (defBody S_check_signs) (defScope S_check_signs) .none kV_check_signs dc_check_signs pm_check_signs an_check_signs cd_check_signs ct_check_signs) := fun_mk (st := S_check_signs) h_l_check_signs h_c_check_signs h_k_check_signs
  have B_check_signs' : Binds K (PySem.W.fnOf "check_signs" "check_signs" (defArgs S_check_signs) (defBody S_check_signs) (defScope S_check_signs) .none kV_check_signs dc_check_signs pm_check_signs an_check_signs cd_check_signs ct_check_signs) ["text", "signs"] [] := F_check_signs'.binds (ps := ["text", "signs"]) fun _ _ _ _ _ _ us hl => match us, hl with | [_, _], _ => rfl
  have F_check_text' : Fun K "check_text" "check_text" S_check_text g_check_text (PySem.W.fnOf "check_text" "check_text" (defArgs S_check_text) (defBody S_check_text) (defScope S_check_text) .none kV_check_text dc_check_text pm_check_text an_check_text cd_check_text ct_check_text) := fun_mk (st := S_check_text) h_l_check_text h_c_check_text h_k_check_text
  have B_check_text' : Binds K (PySem.W.fnOf "check_text" "check_text" (defArgs S_check_text) (defBody S_check_text) (defScope S_check_text) .none kV_check_text dc_check_text pm_check_text an_check_text cd_check_text ct_check_text) ["text"] [] := F_check_text'.binds (ps := ["text"]) fun _ _ _ _ _ _ us hl => match us, hl with | [_], _ => rfl
  have F_digits_of' : Fun K "digits_of" "digits_of" S_digits_of g_digits_of (PySem.W.fnOf "digits_of" "digits_of" (defArgs S_digits_of) (defBody S_digits_of) (defScope S_digits_of) .none kV_digits_of dc_digits_of pm_digits_of an_digits_of cd_digits_of ct_digits_of) := fun_mk (st := S_digits_of) h_l_digits_of h_c_digits_of h_k_digits_of
  have B_digits_of' : Binds K (PySem.W.fnOf "digits_of" "digits_of" (defArgs S_digits_of) (defBody S_digits_of) (defScope S_digits_of) .none kV_digits_of dc_digits_of pm_digits_of an_digits_of cd_digits_of ct_digits_of) ["text"] [] := F_digits_of'.binds (ps := ["text"]) fun _ _ _ _ _ _ us hl => match us, hl with | [_], _ => rfl
  have F_parse_code' : Fun K "parse_code" "parse_code" S_parse_code g_parse_code (PySem.W.fnOf "parse_code" "parse_code" (defArgs S_parse_code) (defBody S_parse_code) (defScope S_parse_code) .none kV_parse_code dc_parse_code pm_parse_code an_parse_code cd_parse_code ct_parse_code) := fun_mk (st := S_parse_code) h_l_parse_code h_c_parse_code h_k_parse_code
  have B_parse_code' : Binds K (PySem.W.fnOf "parse_code" "parse_code" (defArgs S_parse_code) (defBody S_parse_code) (defScope S_parse_code) .none kV_parse_code dc_parse_code pm_parse_code an_parse_code cd_parse_code ct_parse_code) ["text", "base"] [] := F_parse_code'.binds (ps := ["text", "base"]) fun _ _ _ _ _ _ us hl => match us, hl with | [_, _], _ => rfl
  have F_parse_partial' : Fun K "parse_partial" "parse_partial" S_parse_partial g_parse_partial (PySem.W.fnOf "parse_partial" "parse_partial" (defArgs S_parse_partial) (defBody S_parse_partial) (defScope S_parse_partial) .none kV_parse_partial dc_parse_partial pm_parse_partial an_parse_partial cd_parse_partial ct_parse_partial) := fun_mk (st := S_parse_partial) h_l_parse_partial h_c_parse_partial h_k_parse_partial
  have B_parse_partial' : Binds K (PySem.W.fnOf "parse_partial" "parse_partial" (defArgs S_parse_partial) (defBody S_parse_partial) (defScope S_parse_partial) .none kV_parse_partial dc_parse_partial pm_parse_partial an_parse_partial cd_parse_partial ct_parse_partial) ["text", "base"] [] := F_parse_partial'.binds (ps := ["text", "base"]) fun _ _ _ _ _ _ us hl => match us, hl with | [_, _], _ => rfl
  have F__law_right' : Fun K "_law_right" "_law_right" S__law_right g__law_right (PySem.W.fnOf "_law_right" "_law_right" (defArgs S__law_right) (defBody S__law_right) (defScope S__law_right) .none kV__law_right dc__law_right pm__law_right an__law_right cd__law_right ct__law_right) := fun_mk (st := S__law_right) h_l__law_right h_c__law_right h_k__law_right
  have B__law_right' : Binds K (PySem.W.fnOf "_law_right" "_law_right" (defArgs S__law_right) (defBody S__law_right) (defScope S__law_right) .none kV__law_right dc__law_right pm__law_right an__law_right cd__law_right ct__law_right) ["digits", "wide", "open_spots"] [] := F__law_right'.binds (ps := ["digits", "wide", "open_spots"]) fun _ _ _ _ _ _ us hl => match us, hl with | [_, _, _], _ => rfl
  have F_law' : Fun K "law" "law" S_law g_law (PySem.W.fnOf "law" "law" (defArgs S_law) (defBody S_law) (defScope S_law) .none kV_law dc_law pm_law an_law cd_law ct_law) := fun_mk (st := S_law) h_l_law h_c_law h_k_law
  have B_law' : Binds K (PySem.W.fnOf "law" "law" (defArgs S_law) (defBody S_law) (defScope S_law) .none kV_law dc_law pm_law an_law cd_law ct_law) ["script"] [] := F_law'.binds (ps := ["script"]) fun _ _ _ _ _ _ us hl => match us, hl with | [_], _ => rfl
  have KB_0 : KwB K (PySem.W.fnOf "parse_partial" "parse_partial" (defArgs S_parse_partial) (defBody S_parse_partial) (defScope S_parse_partial) .none kV_parse_partial dc_parse_partial pm_parse_partial an_parse_partial cd_parse_partial ct_parse_partial) ["text", "base"] 0 ["base", "text"] [] [(1, 1), (1, 0)] := fun s us ws _ h1 h2 => match us, h1, ws, h2 with | [], _, [_, _], _ => .of_eq rfl
  have KB_1 : KwB K (PySem.W.fnOf "parse_code" "parse_code" (defArgs S_parse_code) (defBody S_parse_code) (defScope S_parse_code) .none kV_parse_code dc_parse_code pm_parse_code an_parse_code cd_parse_code ct_parse_code) ["text", "base"] 0 ["base", "text"] [] [(1, 1), (1, 0)] := fun s us ws _ h1 h2 => match us, h1, ws, h2 with | [], _, [_, _], _ => .of_eq rfl
  have KB_2 : KwB K (PySem.W.fnOf "format_code" "format_code" (defArgs S_format_code) (defBody S_format_code) (defScope S_format_code) .none kV_format_code dc_format_code pm_format_code an_format_code cd_format_code ct_format_code) ["code"] 0 ["code"] [] [(1, 0)] := fun s us ws _ h1 h2 => match us, h1, ws, h2 with | [], _, [_], _ => .of_eq rfl
  have m_Rule := PySem.W.mg_of X G h_aC_Rule
  have T_Rule : ClsT K C_Rule := ⟨h_pg_Rule, h_hd_Rule, h_po_Rule, h_sa_Rule, h_mk_Rule, h_kc_Rule, h_cl_Rule, h_mo_Rule, h_sp_Rule, h_tk_Rule, fun b => match b with | .non => kit_ob (b := .non) h_ob_Rule_NoneType | .bl => kit_ob (b := .bl) h_ob_Rule_bool | .int => kit_ob (b := .int) h_ob_Rule_int | .str => kit_ob (b := .str) h_ob_Rule_str | .tup => kit_ob (b := .tup) h_ob_Rule_tuple | .lst => kit_ob (b := .lst) h_ob_Rule_list | .dct => kit_ob (b := .dct) h_ob_Rule_dict, fun b => match b with | .non => kit_bo (b := .non) h_ic_Rule h_ty_Rule h_bo_Rule_NoneType | .bl => kit_bo (b := .bl) h_ic_Rule h_ty_Rule h_bo_Rule_bool | .int => kit_bo (b := .int) h_ic_Rule h_ty_Rule h_bo_Rule_int | .str => kit_bo (b := .str) h_ic_Rule h_ty_Rule h_bo_Rule_str | .tup => kit_bo (b := .tup) h_ic_Rule h_ty_Rule h_bo_Rule_tuple | .lst => kit_bo (b := .lst) h_ic_Rule h_ty_Rule h_bo_Rule_list | .dct => kit_bo (b := .dct) h_ic_Rule h_ty_Rule h_bo_Rule_dict⟩
  have isi : IsiT ⟨K, mg⟩ OWN ITAB := by
    refine ⟨fun c hc => ?_, fun x hx => ?_⟩
    · unfold OWN at hc; simp only [List.mem_cons, List.mem_nil_iff, or_false] at hc
      subst hc
      exact T_Rule.isi m_Rule
    · unfold ITAB at hx; simp only [List.mem_cons, List.mem_nil_iff, or_false] at hx
      subst hx
      exact ClsT.isiP m_Rule
  have T : Txt K mg A := {
    m__law_coin := PySem.W.mg_of X G h_a__law_coin,
    F__law_coin := F__law_coin',
    b__law_coin := B__law_coin',
    m__law_purse := PySem.W.mg_of X G h_a__law_purse,
    F__law_purse := F__law_purse',
    b__law_purse := B__law_purse',
    m__law_signs := PySem.W.mg_of X G h_a__law_signs,
    F__law_signs := F__law_signs',
    b__law_signs := B__law_signs',
    m_fits_places := PySem.W.mg_of X G h_a_fits_places,
    F_fits_places := F_fits_places',
    b_fits_places := B_fits_places',
    m_is_integer := PySem.W.mg_of X G h_a_is_integer,
    F_is_integer := F_is_integer',
    b_is_integer := B_is_integer',
    m_is_integer_within := PySem.W.mg_of X G h_a_is_integer_within,
    F_is_integer_within := F_is_integer_within',
    b_is_integer_within := B_is_integer_within',
    m_sign_of := PySem.W.mg_of X G h_a_sign_of,
    F_sign_of := F_sign_of',
    b_sign_of := B_sign_of',
    m_text_of := PySem.W.mg_of X G h_a_text_of,
    F_text_of := F_text_of',
    b_text_of := B_text_of',
    m_format_code := PySem.W.mg_of X G h_a_format_code,
    F_format_code := F_format_code',
    b_format_code := B_format_code',
    kb_format_code_2 := KB_2,
    m_is_base := PySem.W.mg_of X G h_a_is_base,
    F_is_base := F_is_base',
    b_is_base := B_is_base',
    m_check_base := PySem.W.mg_of X G h_a_check_base,
    F_check_base := F_check_base',
    b_check_base := B_check_base',
    m_check_signs := PySem.W.mg_of X G h_a_check_signs,
    F_check_signs := F_check_signs',
    b_check_signs := B_check_signs',
    m_check_text := PySem.W.mg_of X G h_a_check_text,
    F_check_text := F_check_text',
    b_check_text := B_check_text',
    m_digits_of := PySem.W.mg_of X G h_a_digits_of,
    F_digits_of := F_digits_of',
    b_digits_of := B_digits_of',
    m_parse_code := PySem.W.mg_of X G h_a_parse_code,
    F_parse_code := F_parse_code',
    b_parse_code := B_parse_code',
    kb_parse_code_1 := KB_1,
    m_parse_partial := PySem.W.mg_of X G h_a_parse_partial,
    F_parse_partial := F_parse_partial',
    b_parse_partial := B_parse_partial',
    kb_parse_partial_0 := KB_0,
    m__law_right := PySem.W.mg_of X G h_a__law_right,
    F__law_right := F__law_right',
    b__law_right := B__law_right',
    m_law := PySem.W.mg_of X G h_a_law,
    F_law := F_law',
    b_law := B_law',
    m_Rule := m_Rule,
    fl_Rule__modulus := T_Rule.fld m_Rule h_n_Rule__modulus,
    fl_Rule__rows := T_Rule.fld m_Rule h_n_Rule__rows,
    fl_Rule__remainder := T_Rule.fld m_Rule h_n_Rule__remainder,
    ci_Rule_MOST_PLACES := ClsT.cint m_Rule h_rd_Rule_MOST_PLACES h_ga_Rule_MOST_PLACES h_fc_Rule_MOST_PLACES,
    isi := isi,
    c_DIGIT_SIGNS := PySem.W.mg_of X G h_v_DIGIT_SIGNS,
    c_GREATEST_BASE := PySem.W.mg_of X G h_v_GREATEST_BASE,
    c_LEAST_BASE := PySem.W.mg_of X G h_v_LEAST_BASE,
    c_UNKNOWN_SIGN := PySem.W.mg_of X G h_v_UNKNOWN_SIGN,
    z_abs := PySem.W.mg_none_of X G h_z_abs,
    z_all := PySem.W.mg_none_of X G h_z_all,
    z_bool := PySem.W.mg_none_of X G h_z_bool,
    z_enumerate := PySem.W.mg_none_of X G h_z_enumerate,
    z_int := PySem.W.mg_none_of X G h_z_int,
    z_isinstance := PySem.W.mg_none_of X G h_z_isinstance,
    z_len := PySem.W.mg_none_of X G h_z_len,
    z_list := PySem.W.mg_none_of X G h_z_list,
    z_max := PySem.W.mg_none_of X G h_z_max,
    z_min := PySem.W.mg_none_of X G h_z_min,
    z_range := PySem.W.mg_none_of X G h_z_range,
    z_repr := PySem.W.mg_none_of X G h_z_repr,
    z_str := PySem.W.mg_none_of X G h_z_str,
    z_tuple := PySem.W.mg_none_of X G h_z_tuple }
  exact ⟨(PySem.W.fnOf "law" "law" (defArgs S_law) (defBody S_law) (defScope S_law) .none kV_law dc_law pm_law an_law cd_law ct_law), fun s v => .of_eq rfl, fun base _ _ => lawG_fn (d_law T) ht⟩

end K53
end CD

set_option Elab.async false
set_option linter.all false
set_option maxRecDepth 100000
open PySem PySem.W PyProof.Rows
set_option maxHeartbeats 0 in
theorem PySem.Challenge.cw_checkdigits_k53_codes_written_holds : PySem.Challenge.rw_checkdigits_k53_codes_written.Holds := by
  w_on; o_law; k_head; (case hw => w_witness2)
  k_fill
  refine CD.walk_G (l := PySem.Challenge.rw_checkdigits_k53_codes_written) (n := 63) (k := CD.K53.L_law) (x := "script") (CX := fun w => L2N.CX PySem.Challenge.rw_checkdigits_k53_codes_written.prog w) (sp := fun w => CD.spL _) rfl (by decide) rfl ⟨⟨rfl, by decide, by decide⟩, rfl⟩ (fun w h Y => PySem.W.kIn_of Y) ?F (fun _ _ a ns hl _ hS => ⟨a, ns, rfl, hl, hS, fun _ => rfl⟩) (fun _ _ _ _ _ h => CD.cx_no h)
  case F =>
    intro w mg fa h KX G hmg
    refine' CD.K53.all_mk KX G hmg ?aC_Rule ?a__law_coin ?l__law_coin ?c__law_coin ?k__law_coin ?a__law_purse ?l__law_purse ?c__law_purse ?k__law_purse ?a__law_signs ?l__law_signs ?c__law_signs ?k__law_signs ?a_fits_places ?l_fits_places ?c_fits_places ?k_fits_places ?a_is_integer ?l_is_integer ?c_is_integer ?k_is_integer ?a_is_integer_within ?l_is_integer_within ?c_is_integer_within ?k_is_integer_within ?a_sign_of ?l_sign_of ?c_sign_of ?k_sign_of ?a_text_of ?l_text_of ?c_text_of ?k_text_of ?a_format_code ?l_format_code ?c_format_code ?k_format_code ?a_is_base ?l_is_base ?c_is_base ?k_is_base ?a_check_base ?l_check_base ?c_check_base ?k_check_base ?a_check_signs ?l_check_signs ?c_check_signs ?k_check_signs ?a_check_text ?l_check_text ?c_check_text ?k_check_text ?a_digits_of ?l_digits_of ?c_digits_of ?k_digits_of ?a_parse_code ?l_parse_code ?c_parse_code ?k_parse_code ?a_parse_partial ?l_parse_partial ?c_parse_partial ?k_parse_partial ?a__law_right ?l__law_right ?c__law_right ?k__law_right ?a_law ?l_law ?c_law ?k_law ?pg_Rule ?hd_Rule ?po_Rule ?sa_Rule ?mk_Rule ?kc_Rule ?ic_Rule ?ty_Rule ?cl_Rule ?mo_Rule ?sp_Rule ?tk_Rule ?ob_Rule_NoneType ?bo_Rule_NoneType ?ob_Rule_bool ?bo_Rule_bool ?ob_Rule_int ?bo_Rule_int ?ob_Rule_str ?bo_Rule_str ?ob_Rule_tuple ?bo_Rule_tuple ?ob_Rule_list ?bo_Rule_list ?ob_Rule_dict ?bo_Rule_dict ?n_Rule__modulus ?n_Rule__rows ?n_Rule__remainder ?rd_Rule_MOST_PLACES ?ga_Rule_MOST_PLACES ?fc_Rule_MOST_PLACES ?v_DIGIT_SIGNS ?v_GREATEST_BASE ?v_LEAST_BASE ?v_UNKNOWN_SIGN ?z_abs ?z_all ?z_bool ?z_enumerate ?z_int ?z_isinstance ?z_len ?z_list ?z_max ?z_min ?z_range ?z_repr ?z_str ?z_tuple CD.K53.law_true
    (case aC_Rule => k_is)
    (case a__law_coin => k_is)
    (case l__law_coin => k_is)
    (case c__law_coin => k_is)
    (case k__law_coin => k_is)
    (case a__law_purse => k_is)
    (case l__law_purse => k_is)
    (case c__law_purse => k_is)
    (case k__law_purse => k_is)
    (case a__law_signs => k_is)
    (case l__law_signs => k_is)
    (case c__law_signs => k_is)
    (case k__law_signs => k_is)
    (case a_fits_places => k_is)
    (case l_fits_places => k_is)
    (case c_fits_places => k_is)
    (case k_fits_places => k_is)
    (case a_is_integer => k_is)
    (case l_is_integer => k_is)
    (case c_is_integer => k_is)
    (case k_is_integer => k_is)
    (case a_is_integer_within => k_is)
    (case l_is_integer_within => k_is)
    (case c_is_integer_within => k_is)
    (case k_is_integer_within => k_is)
    (case a_sign_of => k_is)
    (case l_sign_of => k_is)
    (case c_sign_of => k_is)
    (case k_sign_of => k_is)
    (case a_text_of => k_is)
    (case l_text_of => k_is)
    (case c_text_of => k_is)
    (case k_text_of => k_is)
    (case a_format_code => k_is)
    (case l_format_code => k_is)
    (case c_format_code => k_is)
    (case k_format_code => k_is)
    (case a_is_base => k_is)
    (case l_is_base => k_is)
    (case c_is_base => k_is)
    (case k_is_base => k_is)
    (case a_check_base => k_is)
    (case l_check_base => k_is)
    (case c_check_base => k_is)
    (case k_check_base => k_is)
    (case a_check_signs => k_is)
    (case l_check_signs => k_is)
    (case c_check_signs => k_is)
    (case k_check_signs => k_is)
    (case a_check_text => k_is)
    (case l_check_text => k_is)
    (case c_check_text => k_is)
    (case k_check_text => k_is)
    (case a_digits_of => k_is)
    (case l_digits_of => k_is)
    (case c_digits_of => k_is)
    (case k_digits_of => k_is)
    (case a_parse_code => k_is)
    (case l_parse_code => k_is)
    (case c_parse_code => k_is)
    (case k_parse_code => k_is)
    (case a_parse_partial => k_is)
    (case l_parse_partial => k_is)
    (case c_parse_partial => k_is)
    (case k_parse_partial => k_is)
    (case a__law_right => k_is)
    (case l__law_right => k_is)
    (case c__law_right => k_is)
    (case k__law_right => k_is)
    (case a_law => k_is)
    (case l_law => k_is)
    (case c_law => k_is)
    (case k_law => k_is)
    (case pg_Rule => k_is)
    (case hd_Rule => k_is)
    (case po_Rule => k_is)
    (case sa_Rule => k_is)
    (case mk_Rule => k_is)
    (case kc_Rule => k_is)
    (case ic_Rule => k_is)
    (case ty_Rule => k_is)
    (case cl_Rule => k_is)
    (case mo_Rule => k_is)
    (case sp_Rule => k_is)
    (case tk_Rule => k_is)
    (case ob_Rule_NoneType => k_is)
    (case bo_Rule_NoneType => k_is)
    (case ob_Rule_bool => k_is)
    (case bo_Rule_bool => k_is)
    (case ob_Rule_int => k_is)
    (case bo_Rule_int => k_is)
    (case ob_Rule_str => k_is)
    (case bo_Rule_str => k_is)
    (case ob_Rule_tuple => k_is)
    (case bo_Rule_tuple => k_is)
    (case ob_Rule_list => k_is)
    (case bo_Rule_list => k_is)
    (case ob_Rule_dict => k_is)
    (case bo_Rule_dict => k_is)
    (case n_Rule__modulus => k_is)
    (case n_Rule__rows => k_is)
    (case n_Rule__remainder => k_is)
    (case rd_Rule_MOST_PLACES => k_is)
    (case ga_Rule_MOST_PLACES => k_is)
    (case fc_Rule_MOST_PLACES => k_is)
    (case v_DIGIT_SIGNS => k_is)
    (case v_GREATEST_BASE => k_is)
    (case v_LEAST_BASE => k_is)
    (case v_UNKNOWN_SIGN => k_is)
    (case z_abs => k_is)
    (case z_all => k_is)
    (case z_bool => k_is)
    (case z_enumerate => k_is)
    (case z_int => k_is)
    (case z_isinstance => k_is)
    (case z_len => k_is)
    (case z_list => k_is)
    (case z_max => k_is)
    (case z_min => k_is)
    (case z_range => k_is)
    (case z_repr => k_is)
    (case z_str => k_is)
    (case z_tuple => k_is)
