import PyProof.Rows.All
import HandS.ForMost
import HandS.Walk
import HandS.Gcd
import HandS.WideBits
import HandS.IsInst
import HandS.TupAny
import HandS.Style
import PyProof.ReprRoads
import KE.KMathG
import HandS.TryOnly
import HandS.Zip
import HandS.Rev
import HandS.WordsExc
import HandS.ExcOwn
import HandS.EndBits
import HandS.Deep
import HandS.StrMore
import HandS.More
import HandS.Flow
import PyProof.Rows.IntBool
import PyProof.CallStr
import HandS.Text
import HandS.ExcIs
import KE.KTryMore
import PySem.Challenge.RW_squarepapers_k02_fractions_reckoned
set_option Elab.async false
set_option linter.all false
set_option maxRecDepth 100000
set_option maxHeartbeats 4000000
section
/-! Plain values: what a Python program of nested data does, told by plain functions over a store. -/
namespace PV
open PySem PySem.Spec PyProof.Rows L2

/-- a value: nested data by content; what is changed in place by its number in the store -/
inductive D where
  | non | bl (b : Bool) | int (i : Int) | str (x : Str)
  | tup (xs : List D) | lst (xs : List D)
  /-- a list that is only read (the script, a list of the module) -/
  | ro (xs : List D)
  | ref (n : Nat)
/-- what is changed in place -/
inductive SO where
  | lst (xs : List D)
  | dic (kvs : List (Key × D))
abbrev Sto := List SO
/-- an exception of an own class: the class's name, its attributes -/
structure Exn where
  cls : Str
  fs : Option (List (Str × D))
inductive Out (α : Type) where
  | ok (a : α) (st : Sto) | exc (x : Exn) (st : Sto) | bad
abbrev M (α : Type) := Sto → Out α
abbrev Nv := List (Option D)
/-- an expression -/
abbrev Tm := Nv → M D
def bnd {α β : Type} (t : M α) (f : α → M β) : M β := fun st => match t st with
  | .ok a st' => f a st'
  | .exc x st' => .exc x st'
  | .bad => .bad
def ret {α : Type} (a : α) : M α := fun st => .ok a st
def bad {α : Type} : M α := fun _ => .bad
def lift {α : Type} (o : Option α) : M α := fun st => match o with
  | some a => .ok a st
  | none => .bad

/-! ### what stands for what -/
/-- the domain: the addresses of what is ours (by number), those that no content may lie at (lists in the making) -/
structure Dm where
  m : List Addr
  f : List Addr
def Off (d : Dm) (a : Addr) : Prop := a ∉ d.m ∧ a ∉ d.f
/-- a tuple, a list of content that stands: tracked and not ours, or an object of the module -/
def FzT (K : PySem.W.Frag) (H : Hp) (d : Dm) (a : Addr) (vs : List V) : Prop := (Rd H a (.tup vs) ∧ Off d a) ∨ ∀ H', SqT K H' a vs
def FzL (H : Hp) (d : Dm) (a : Addr) (vs : List V) : Prop := H a = some (.lst vs) ∧ Off d a
def FzR (K : PySem.W.Frag) (H : Hp) (d : Dm) (a : Addr) (vs : List V) : Prop := (Rd H a (.lst vs) ∧ Off d a) ∨ ∀ H', SqL K H' a vs
mutual
inductive Rep (K : PySem.W.Frag) (H : Hp) (d : Dm) : V → D → Prop
  | non : Rep K H d .non .non
  | bl (b : Bool) : Rep K H d (.bl b) (.bl b)
  | int (i : Int) : Rep K H d (.int i) (.int i)
  | str (x : Str) : Rep K H d (.str x) (.str x)
  | tup {a : Addr} {vs : List V} {ds : List D} : FzT K H d a vs → RepL K H d vs ds → Rep K H d (.ref a) (.tup ds)
  | lst {a : Addr} {vs : List V} {ds : List D} : FzL H d a vs → RepL K H d vs ds → Rep K H d (.ref a) (.lst ds)
  | ro {a : Addr} {vs : List V} {ds : List D} : FzR K H d a vs → RepL K H d vs ds → Rep K H d (.ref a) (.ro ds)
  | ref {a : Addr} {n : Nat} : d.m[n]? = some a → Rep K H d (.ref a) (.ref n)
inductive RepL (K : PySem.W.Frag) (H : Hp) (d : Dm) : List V → List D → Prop
  | nil : RepL K H d [] []
  | cons {v : V} {vs : List V} {x : D} {ds : List D} : Rep K H d v x → RepL K H d vs ds → RepL K H d (v :: vs) (x :: ds)
end

/-- from a heap to a later one: what wasn't ours stays, what's ours more is new -/
structure Ext (H : Hp) (d : Dm) (H' : Hp) (d' : Dm) : Prop where
  keep : ∀ a o, H a = some o → a ∉ d.m → H' a = some o
  pre : ∃ t, d'.m = d.m ++ t
  new : ∀ a, a ∈ d'.m → a ∉ d.m → H a = none
  ff : d'.f = d.f
theorem Ext.refl (H : Hp) (d : Dm) : Ext H d H d := ⟨fun _ _ h _ => h, ⟨[], by simp⟩, fun _ h n => absurd h n, rfl⟩
theorem Ext.trans {H H1 H2 : Hp} {d d1 d2 : Dm} (a : Ext H d H1 d1) (b : Ext H1 d1 H2 d2) : Ext H d H2 d2 := by
  refine ⟨fun x o h n => ?_, ?_, fun x h n => ?_, b.ff.trans a.ff⟩
  · have h1 := a.keep x o h n
    refine b.keep x o h1 fun z => ?_
    have := a.new x z n
    rw [this] at h; cases h
  · obtain ⟨t, e⟩ := a.pre
    obtain ⟨u, e'⟩ := b.pre
    exact ⟨t ++ u, by rw [e', e, List.append_assoc]⟩
  · by_cases z : x ∈ d1.m
    · exact a.new x z n
    · have h1 := b.new x h z
      cases q : H x with
      | none => rfl
      | some o =>
        have := a.keep x o q n
        rw [h1] at this; cases this
theorem Ext.same {H H' : Hp} {d : Dm} (s : Same H H') : Ext H d H' d := ⟨fun a o h _ => s a o h, ⟨[], by simp⟩, fun _ h n => absurd h n, rfl⟩
theorem Ext.get {H H' : Hp} {d d' : Dm} (e : Ext H d H' d') {n : Nat} {a : Addr} (h : d.m[n]? = some a) : d'.m[n]? = some a := by
  obtain ⟨t, q⟩ := e.pre
  rw [q, List.getElem?_append_left (List.getElem?_eq_some_iff.mp h).1]; exact h
theorem rd_none {H : Hp} {a : Addr} {o : HO} (h : Rd H a o) : H a ≠ none := by
  rcases h with h | ⟨_, h⟩ <;> (rw [h]; exact fun z => nomatch z)
theorem Ext.off {H H' : Hp} {d d' : Dm} (e : Ext H d H' d') {a : Addr} (h : H a ≠ none) (n : Off d a) : Off d' a := ⟨fun z => h (e.new a z n.1), by rw [e.ff]; exact n.2⟩
theorem Ext.rd {H H' : Hp} {d d' : Dm} (e : Ext H d H' d') {a : Addr} {o : HO} (n : Off d a) (h : Rd H a o) : Rd H' a o := by
  rcases h with h | ⟨u, h⟩
  · exact .inl (e.keep _ _ h n.1)
  · exact .inr ⟨u, e.keep _ _ h n.1⟩
theorem FzT.ext {K : PySem.W.Frag} {H H' : Hp} {d d' : Dm} (e : Ext H d H' d') {a : Addr} {vs : List V} (h : FzT K H d a vs) : FzT K H' d' a vs := by
  rcases h with ⟨h, n⟩ | h
  · exact .inl ⟨e.rd n h, e.off (rd_none h) n⟩
  · exact .inr h
theorem FzL.ext {H H' : Hp} {d d' : Dm} (e : Ext H d H' d') {a : Addr} {vs : List V} (h : FzL H d a vs) : FzL H' d' a vs :=
  ⟨e.keep _ _ h.1 h.2.1, e.off (by rw [h.1]; exact fun z => nomatch z) h.2⟩
theorem FzR.ext {K : PySem.W.Frag} {H H' : Hp} {d d' : Dm} (e : Ext H d H' d') {a : Addr} {vs : List V} (h : FzR K H d a vs) : FzR K H' d' a vs := by
  rcases h with ⟨h, n⟩ | h
  · exact .inl ⟨e.rd n h, e.off (rd_none h) n⟩
  · exact .inr h
theorem FzT.sq {K : PySem.W.Frag} {H : Hp} {d : Dm} {a : Addr} {vs : List V} (h : FzT K H d a vs) : SqT K H a vs := by
  rcases h with ⟨h, _⟩ | h
  · exact .inl h
  · exact h H
theorem FzL.sq {K : PySem.W.Frag} {H : Hp} {d : Dm} {a : Addr} {vs : List V} (h : FzL H d a vs) : SqL K H a vs := SqL.of h.1
theorem FzR.sq {K : PySem.W.Frag} {H : Hp} {d : Dm} {a : Addr} {vs : List V} (h : FzR K H d a vs) : SqL K H a vs := by
  rcases h with ⟨h, _⟩ | h
  · exact .inl h
  · exact h H
section
variable {K : PySem.W.Frag} {H H' : Hp} {d d' : Dm}
/-- how representations go over: a map of what they lean on -/
structure Over (K : PySem.W.Frag) (H : Hp) (d : Dm) (H' : Hp) (d' : Dm) : Prop where
  tup : ∀ a vs, FzT K H d a vs → FzT K H' d' a vs
  lst : ∀ a vs, FzL H d a vs → FzL H' d' a vs
  ro : ∀ a vs, FzR K H d a vs → FzR K H' d' a vs
  ref : ∀ (n : Nat) (a : Addr), d.m[n]? = some a → d'.m[n]? = some a
theorem Over.trans {H1 : Hp} {d1 : Dm} (a : Over K H d H1 d1) (b : Over K H1 d1 H' d') : Over K H d H' d' :=
  ⟨fun x vs h => b.tup x vs (a.tup x vs h), fun x vs h => b.lst x vs (a.lst x vs h), fun x vs h => b.ro x vs (a.ro x vs h), fun n x h => b.ref n x (a.ref n x h)⟩
mutual
theorem Rep.over (e : Over K H d H' d') : ∀ {v : V} {x : D}, Rep K H d v x → Rep K H' d' v x
  | _, _, .non => .non
  | _, _, .bl b => .bl b
  | _, _, .int i => .int i
  | _, _, .str x => .str x
  | _, _, .tup h r => .tup (e.tup _ _ h) (RepL.over e r)
  | _, _, .lst h r => .lst (e.lst _ _ h) (RepL.over e r)
  | _, _, .ro h r => .ro (e.ro _ _ h) (RepL.over e r)
  | _, _, .ref h => .ref (e.ref _ _ h)
theorem RepL.over (e : Over K H d H' d') : ∀ {vs : List V} {ds : List D}, RepL K H d vs ds → RepL K H' d' vs ds
  | _, _, .nil => .nil
  | _, _, .cons h r => .cons (Rep.over e h) (RepL.over e r)
end
theorem Ext.over (e : Ext H d H' d') : Over K H d H' d' := ⟨fun _ _ h => h.ext e, fun _ _ h => h.ext e, fun _ _ h => h.ext e, fun _ _ h => e.get h⟩
theorem Rep.ext (e : Ext H d H' d') {v : V} {x : D} (h : Rep K H d v x) : Rep K H' d' v x := h.over e.over
theorem RepL.ext (e : Ext H d H' d') {vs : List V} {ds : List D} (h : RepL K H d vs ds) : RepL K H' d' vs ds := h.over e.over
/-- an address is let again -/
theorem Over.drop {m f : List Addr} {p : Addr} : Over K H ⟨m, p :: f⟩ H ⟨m, f⟩ := by
  refine ⟨fun a vs h => ?_, fun a vs h => ⟨h.1, h.2.1, fun z => h.2.2 (List.mem_cons_of_mem _ z)⟩, fun a vs h => ?_, fun _ _ h => h⟩
  · rcases h with ⟨h, n, k⟩ | h
    · exact .inl ⟨h, n, fun z => k (List.mem_cons_of_mem _ z)⟩
    · exact .inr h
  · rcases h with ⟨h, n, k⟩ | h
    · exact .inl ⟨h, n, fun z => k (List.mem_cons_of_mem _ z)⟩
    · exact .inr h
/-- an address at which nothing lies is kept free -/
theorem Over.bar {m f : List Addr} {p : Addr} (hp : H p = none) : Over K H ⟨m, f⟩ H ⟨m, p :: f⟩ := by
  have ne : ∀ {a : Addr} {o : HO}, Rd H a o → a ≠ p := fun h z => rd_none h (z ▸ hp)
  refine ⟨fun a vs h => ?_, fun a vs h => ⟨h.1, h.2.1, fun z => (List.mem_cons.mp z).elim (ne (Rd.of h.1)) h.2.2⟩, fun a vs h => ?_, fun _ _ h => h⟩
  · rcases h with ⟨h, n, k⟩ | h
    · exact .inl ⟨h, n, fun z => (List.mem_cons.mp z).elim (ne h) k⟩
    · exact .inr h
  · rcases h with ⟨h, n, k⟩ | h
    · exact .inl ⟨h, n, fun z => (List.mem_cons.mp z).elim (ne h) k⟩
    · exact .inr h
/-- what was kept free becomes ours -/
theorem Over.take {m f : List Addr} {p : Addr} : Over K H ⟨m, p :: f⟩ H ⟨m ++ [p], f⟩ := by
  have off : ∀ {a : Addr}, Off ⟨m, p :: f⟩ a → Off ⟨m ++ [p], f⟩ a := fun {a} n => ⟨fun z => by
    rcases List.mem_append.mp z with z | z
    · exact n.1 z
    · exact n.2 (by rw [List.mem_singleton.mp z]; exact List.mem_cons_self), fun z => n.2 (List.mem_cons_of_mem _ z)⟩
  refine ⟨fun a vs h => ?_, fun a vs h => ⟨h.1, off h.2⟩, fun a vs h => ?_, fun n a h => by
    show (m ++ [p])[n]? = some a
    rw [List.getElem?_append_left (List.getElem?_eq_some_iff.mp h).1]; exact h⟩
  · rcases h with ⟨h, n⟩ | h
    · exact .inl ⟨h, off n⟩
    · exact .inr h
  · rcases h with ⟨h, n⟩ | h
    · exact .inl ⟨h, off n⟩
    · exact .inr h
theorem RepL.length : ∀ {vs : List V} {ds : List D}, RepL K H d vs ds → vs.length = ds.length
  | _, _, .nil => rfl
  | _, _, .cons _ r => by simp [RepL.length r]
theorem RepL.get : ∀ {vs : List V} {ds : List D}, RepL K H d vs ds → ∀ {i : Nat} {x : D}, ds[i]? = some x → ∃ v, vs[i]? = some v ∧ Rep K H d v x
  | _, _, .nil, _, _, h => by simp at h
  | _, _, .cons h r, 0, _, e => by simp at e; subst e; exact ⟨_, rfl, h⟩
  | _, _, .cons h r, i + 1, _, e => by simpa using RepL.get r (by simpa using e)
theorem RepL.getV : ∀ {vs : List V} {ds : List D}, RepL K H d vs ds → ∀ {i : Nat} {v : V}, vs[i]? = some v → ∃ x, ds[i]? = some x ∧ Rep K H d v x
  | _, _, .nil, _, _, h => by simp at h
  | _, _, .cons h r, 0, _, e => by simp at e; subst e; exact ⟨_, rfl, h⟩
  | _, _, .cons h r, i + 1, _, e => by simpa using RepL.getV r (by simpa using e)
theorem RepL.append : ∀ {vs ws : List V} {ds es : List D}, RepL K H d vs ds → RepL K H d ws es → RepL K H d (vs ++ ws) (ds ++ es)
  | _, _, _, _, .nil, s => s
  | _, _, _, _, .cons h r, s => .cons h (RepL.append r s)
theorem RepL.take : ∀ {vs : List V} {ds : List D} (n : Nat), RepL K H d vs ds → RepL K H d (vs.take n) (ds.take n)
  | _, _, 0, _ => .nil
  | _, _, _ + 1, .nil => .nil
  | _, _, n + 1, .cons h r => .cons h (RepL.take n r)
theorem RepL.drop : ∀ {vs : List V} {ds : List D} (n : Nat), RepL K H d vs ds → RepL K H d (vs.drop n) (ds.drop n)
  | _, _, 0, r => r
  | _, _, _ + 1, .nil => .nil
  | _, _, n + 1, .cons _ r => RepL.drop n r
theorem RepL.set {v : V} {x : D} (q : Rep K H d v x) : ∀ {vs : List V} {ds : List D} (n : Nat), RepL K H d vs ds → RepL K H d (vs.set n v) (ds.set n x)
  | _, _, _, .nil => .nil
  | _, _, 0, .cons _ r => .cons q r
  | _, _, n + 1, .cons h r => .cons h (RepL.set q n r)
theorem RepL.reverse : ∀ {vs : List V} {ds : List D}, RepL K H d vs ds → RepL K H d vs.reverse ds.reverse
  | _, _, .nil => .nil
  | _, _, .cons h r => by
    rw [List.reverse_cons, List.reverse_cons]
    exact RepL.append (RepL.reverse r) (.cons h .nil)

/-! ### the store, the names -/
/-- pairs of a dict -/
inductive RepKV (K : PySem.W.Frag) (H : Hp) (d : Dm) : List (Key × V) → List (Key × D) → Prop
  | nil : RepKV K H d [] []
  | cons {k : Key} {v : V} {vs : List (Key × V)} {x : D} {ds : List (Key × D)} : Rep K H d v x → RepKV K H d vs ds → RepKV K H d ((k, v) :: vs) ((k, x) :: ds)
theorem RepKV.over (e : Over K H d H' d') : ∀ {vs : List (Key × V)} {ds : List (Key × D)}, RepKV K H d vs ds → RepKV K H' d' vs ds
  | _, _, .nil => .nil
  | _, _, .cons h r => .cons (h.over e) (RepKV.over e r)
def SRep (K : PySem.W.Frag) (H : Hp) (d : Dm) (a : Addr) : SO → Prop
  | .lst ds => ∃ vs, H a = some (.lst vs) ∧ RepL K H d vs ds
  | .dic ds => ∃ vs, H a = some (.dK vs) ∧ RepKV K H d vs ds
structure Rl (K : PySem.W.Frag) (H : Hp) (d : Dm) (st : Sto) : Prop where
  len : d.m.length = st.length
  nd : d.m.Nodup
  at' : ∀ (n : Nat) (o : SO), st[n]? = some o → ∃ a : Addr, d.m[n]? = some a ∧ SRep K H d a o
  ff : ∀ a, a ∈ d.f → H a ≠ none ∧ a ∉ d.m
theorem SRep.get {a : Addr} {o : SO} (h : SRep K H d a o) : ∃ u, H a = some u := by
  cases o with
  | lst _ => exact ⟨_, h.choose_spec.1⟩
  | dic _ => exact ⟨_, h.choose_spec.1⟩
theorem SRep.over (e : Over K H d H' d') {a : Addr} {o : SO} (h : SRep K H d a o) (k : ∀ u, H a = some u → H' a = some u) : SRep K H' d' a o := by
  cases o with
  | lst _ => obtain ⟨vs, h1, h2⟩ := h; exact ⟨vs, k _ h1, h2.over e⟩
  | dic _ => obtain ⟨vs, h1, h2⟩ := h; exact ⟨vs, k _ h1, h2.over e⟩
variable {st st' : Sto}
theorem Rl.there (r : Rl K H d st) {a : Addr} (h : a ∈ d.m) : ∃ u, H a = some u := by
  obtain ⟨n, hn, e⟩ := List.getElem_of_mem h
  have hs : n < st.length := by rw [← r.len]; exact hn
  obtain ⟨b, hb, q⟩ := r.at' n st[n] (List.getElem?_eq_getElem hs)
  rw [List.getElem?_eq_getElem hn, e] at hb
  cases hb
  exact q.get
theorem Rl.new (r : Rl K H d st) {p : Addr} (h : H p = none) : Off d p := ⟨fun z => (by
  obtain ⟨u, q⟩ := r.there z
  rw [h] at q; cases q), fun z => (r.ff p z).1 h⟩
theorem Rl.same (r : Rl K H d st) (s : Same H H') : Rl K H' d st :=
  ⟨r.len, r.nd, fun n o h => let ⟨a, h1, h2⟩ := r.at' n o h; ⟨a, h1, h2.over (Ext.same s).over fun u q => s a u q⟩, fun a h => ⟨fun z => (r.ff a h).1 (s.free z), (r.ff a h).2⟩⟩
theorem same_upd {p : Addr} {o : HO} (h : H p = none) : Same H (upd H p o) := fun b x e => by
  rw [upd_ne (ne_of_none e h)]; exact e
theorem Rl.drop {m f : List Addr} {p : Addr} (r : Rl K H ⟨m, p :: f⟩ st) : Rl K H ⟨m, f⟩ st :=
  ⟨r.len, r.nd, fun n o h => let ⟨a, h1, h2⟩ := r.at' n o h; ⟨a, h1, h2.over Over.drop fun _ q => q⟩, fun a h => r.ff a (List.mem_cons_of_mem _ h)⟩
/-- a new object is kept free -/
theorem Rl.bar {m f : List Addr} {p : Addr} (r : Rl K H ⟨m, f⟩ st) (s : Same H H') (hp : H p = none) (hp' : H' p ≠ none) : Rl K H' ⟨m, p :: f⟩ st := by
  have n := r.new hp
  refine ⟨r.len, r.nd, fun j o h => ?_, fun a h => ?_⟩
  · obtain ⟨a, h1, h2⟩ := r.at' j o h
    exact ⟨a, h1, (h2.over (Over.bar hp) fun _ q => q).over (Ext.same s).over fun u q => s a u q⟩
  · rcases List.mem_cons.mp h with rfl | h
    · exact ⟨hp', n.1⟩
    · exact ⟨fun z => (r.ff a h).1 (s.free z), (r.ff a h).2⟩
/-- what was kept free becomes ours -/
theorem Rl.take {m f : List Addr} {p : Addr} {o : SO} (r : Rl K H ⟨m, p :: f⟩ st) (q : SRep K H ⟨m, p :: f⟩ p o) (hf : p ∉ f) : Rl K H ⟨m ++ [p], f⟩ (st ++ [o]) := by
  have hp : p ∉ m := (r.ff p List.mem_cons_self).2
  refine ⟨by simp [show m.length = st.length from r.len], ?_, fun n x hx => ?_, fun a h => ⟨(r.ff a (List.mem_cons_of_mem _ h)).1, fun z => ?_⟩⟩
  · rw [List.nodup_append]
    refine ⟨r.nd, by simp, fun a ha b hb => ?_⟩
    rw [List.mem_singleton.mp hb]
    rintro rfl
    exact hp ha
  · by_cases hn : n < st.length
    · rw [List.getElem?_append_left hn] at hx
      obtain ⟨a, h1, h2⟩ := r.at' n x hx
      exact ⟨a, Over.take.ref (K := K) (H := H) n a h1, h2.over Over.take fun _ z => z⟩
    · have hnn : n = st.length := by
        have := (List.getElem?_eq_some_iff.mp hx).1
        simp at this; omega
      subst hnn
      simp at hx
      subst hx
      exact ⟨p, by rw [← show m.length = st.length from r.len]; simp, q.over Over.take fun _ z => z⟩
  · rcases List.mem_append.mp z with z | z
    · exact (r.ff a (List.mem_cons_of_mem _ h)).2 z
    · rw [List.mem_singleton.mp z] at h; exact hf h
/-- an object of ours is changed -/
theorem ext_put {a : Addr} {u : HO} (h : a ∈ d.m) : Ext H d (upd H a u) d := ⟨fun b x hb hn => by
  rw [upd_ne (show b ≠ a from fun z => hn (by rw [z]; exact h))]; exact hb, ⟨[], by simp⟩, fun _ h n => absurd h n, rfl⟩
theorem Rl.put (r : Rl K H d st) {n : Nat} {a : Addr} {u : HO} {o : SO} (h : d.m[n]? = some a) (q : SRep K (upd H a u) d a o) : Rl K (upd H a u) d (st.set n o) := by
  have ha : a ∈ d.m := List.mem_of_getElem? h
  refine ⟨by rw [List.length_set]; exact r.len, r.nd, fun j x hx => ?_, fun b hb => ⟨?_, (r.ff b hb).2⟩⟩
  · by_cases hj : n = j
    · subst hj
      have hl : n < st.length := by
        have := (List.getElem?_eq_some_iff.mp hx).1
        simpa using this
      rw [List.getElem?_set_self hl] at hx
      cases hx
      exact ⟨a, h, q⟩
    · rw [List.getElem?_set_ne hj] at hx
      obtain ⟨b, h1, h2⟩ := r.at' j x hx
      have hb : b ≠ a := by
        rintro rfl
        exact hj (nd_ix r.nd h h1)
      exact ⟨b, h1, h2.over (ext_put ha).over fun y z => by rw [upd_ne hb]; exact z⟩
  · have hne : b ≠ a := fun z => (r.ff b hb).2 (by rw [z]; exact ha)
    rw [upd_ne hne]; exact (r.ff b hb).1
end
/-- the names' values -/
structure NvR (K : PySem.W.Frag) (H : Hp) (d : Dm) (σ : L2.St) (nv : Nv) : Prop where
  len : σ.length = nv.length
  at' : ∀ (i : Nat) (x : D), nv[i]? = some (some x) → ∃ v : V, σ[i]? = some (some v) ∧ Rep K H d v x
section
variable {K : PySem.W.Frag} {H H' : Hp} {d d' : Dm} {σ : L2.St} {nv : Nv}
theorem NvR.over (e : Over K H d H' d') (h : NvR K H d σ nv) : NvR K H' d' σ nv :=
  ⟨h.len, fun i x q => let ⟨v, h1, h2⟩ := h.at' i x q; ⟨v, h1, h2.over e⟩⟩
theorem NvR.ext (e : Ext H d H' d') (h : NvR K H d σ nv) : NvR K H' d' σ nv := h.over e.over
theorem NvR.set {i : Nat} {v : V} {x : D} (h : NvR K H d σ nv) (q : Rep K H d v x) : NvR K H d (σ.set i (some v)) (nv.set i (some x)) := by
  refine ⟨by simp [h.len], fun j e hj => ?_⟩
  by_cases hi : i = j
  · subst hi
    have hl : i < nv.length := by
      have := (List.getElem?_eq_some_iff.mp hj).1
      simpa using this
    rw [List.getElem?_set_self hl] at hj
    cases hj
    exact ⟨v, by rw [List.getElem?_set_self (by rw [h.len]; exact hl)], q⟩
  · rw [List.getElem?_set_ne hi] at hj
    obtain ⟨w, h1, h2⟩ := h.at' j e hj
    exact ⟨w, by rw [List.getElem?_set_ne hi]; exact h1, h2⟩
end
end PV
end

section
/-! Readings by plain functions: expressions, tests, arguments. -/
namespace PV
open PySem PySem.Spec PyProof.Rows L2

/-- an exception's attributes -/
inductive RepF (K : PySem.W.Frag) (H : Hp) (d : Dm) : List (Str × V) → List (Str × D) → Prop
  | nil : RepF K H d [] []
  | cons {x : Str} {v : V} {y : D} {vs : List (Str × V)} {ds : List (Str × D)} : Rep K H d v y → RepF K H d vs ds → RepF K H d ((x, v) :: vs) ((x, y) :: ds)
def RepX (K : PySem.W.Frag) (mg : Str → Option Value) (H : Hp) (d : Dm) (x : Exn) (cls : Value) (dx : Option Addr) : Prop :=
  ∃ C : Addr, mg x.cls = some (.ref C) ∧ cls = .ref C ∧ match x.fs, dx with
    | none, none => True
    | some fs, some a => ∃ ws, H a = some (.xd ws) ∧ Off d a ∧ RepF K H d ws fs
    | _, _ => False
/-- what a reading leans on of its context -/
structure Fx where
  K : PySem.W.Frag
  mg : Str → Option Value
abbrev _root_.L2.Cx.fx (X : Cx) : Fx := ⟨X.K, X.mg⟩
/-- what a result leaves to be shown -/
def Aft {α : Type} (F : Fx) (W : Value → Option Addr → Hp → Prop) (H : Hp) (d : Dm) (o : Out α) (k : α → Sto → Hp → Dm → Prop) : Prop :=
  match o with
  | .ok a st => ∀ H' d', Ext H d H' d' → Rl F.K H' d' st → k a st H' d'
  | .exc x st => ∀ H' d' cls dx, Ext H d H' d' → Rl F.K H' d' st → RepX F.K F.mg H' d' x cls dx → W cls dx H'
  | .bad => False
abbrev WX' := Value → Option Addr → L2.St → Hp → Prop
def Wat (W : WX') (σ : L2.St) : Value → Option Addr → Hp → Prop := fun c dx H => W c dx σ H

/-- of a state: the reading of t there, then k -/
def Rdg {α : Type} (F : Fx) (W : WX') (σ : L2.St) (H : Hp) (t : Nv → M α) (k : α → Sto → Hp → Dm → Prop) : Prop :=
  ∃ d nv st, Rl F.K H d st ∧ NvR F.K H d σ nv ∧ Aft F (Wat W σ) H d (t nv st) k
def tI (F : Fx) (W : WX') (t : Tm) : TE := fun σ H Q => Rdg F W σ H t fun x _ H' d' => ∀ v, Rep F.K H' d' v x → Q v H'
def tIT (F : Fx) (W : WX') (t : Nv → M Bool) : TT := fun σ H Q => Rdg F W σ H t fun b _ H' _ => Q b H'
def tIA (F : Fx) (W : WX') (t : Nv → M (List D)) : TA := fun σ H Q => Rdg F W σ H t fun ds _ H' d' => ∀ vs, RepL F.K H' d' vs ds → Q vs H'
/-- a new list at p -/
def AftN (F : Fx) (W : Value → Option Addr → Hp → Prop) (H : Hp) (d : Dm) (o : Out (List D)) (Q : VK) : Prop :=
  match o with
  | .ok ds st => ∀ H' m' p vs, Ext H d H' ⟨m', d.f⟩ → H p = none → H' p = some (.lst vs) → Rl F.K H' ⟨m', p :: d.f⟩ st → RepL F.K H' ⟨m', p :: d.f⟩ vs ds → Q (.ref p) H'
  | .exc x st => ∀ H' d' cls dx, Ext H d H' d' → Rl F.K H' d' st → RepX F.K F.mg H' d' x cls dx → W cls dx H'
  | .bad => False
def tIN (F : Fx) (W : WX') (t : Nv → M (List D)) : TE := fun σ H Q => ∃ d nv st, Rl F.K H d st ∧ NvR F.K H d σ nv ∧ AftN F (Wat W σ) H d (t nv st) Q
section
variable {X : Cx} {W : WX'} {α β : Type}
theorem PE.imp {e : Expr} {t t' : TE} (h : PE X e t) (i : ∀ σ H Q, t' σ H Q → t σ H Q) : PE X e t' := ⟨fun pins s σ H Q I q => h.run pins s σ H Q I (i σ H Q q)⟩
theorem PT.imp {e : Expr} {t t' : TT} (h : PT X e t) (i : ∀ σ H Q, t' σ H Q → t σ H Q) : PT X e t' := ⟨fun pins s σ H Q I q => h.run pins s σ H Q I (i σ H Q q)⟩
theorem PW.imp {e : Expr} {t t' : TT} (h : PW X e t) (i : ∀ σ H Q, t' σ H Q → t σ H Q) : PW X e t' := ⟨fun wh pins s σ H Q I q => h.run wh pins s σ H Q I (i σ H Q q)⟩
theorem PA.imp {e : List Expr} {t t' : TA} (h : PA X e t) (i : ∀ σ H Q, t' σ H Q → t σ H Q) : PA X e t' := ⟨fun pos pins s σ H Q I q => h.run pos pins s σ H Q I (i σ H Q q)⟩
theorem PS.imp {e : Stmt} {t t' : TS} (h : PS X e t) (i : ∀ D σ H, t' D σ H → t D σ H) : PS X e t' := ⟨fun pins s σ H D I q => h.run pins s σ H D I (i D σ H q)⟩
theorem PSs.imp {e : List Stmt} {t t' : TS} (h : PSs X e t) (i : ∀ D σ H, t' D σ H → t D σ H) : PSs X e t' := ⟨fun pins s σ H D I q => h.run pins s σ H D I (i D σ H q)⟩

theorem Aft.ext {W : Value → Option Addr → Hp → Prop} {H H' : Hp} {d d' : Dm} {o : Out α} {k : α → Sto → Hp → Dm → Prop} (e : Ext H d H' d') (h : Aft X.fx W H d o k) : Aft X.fx W H' d' o k := by
  cases o with
  | ok a st => exact fun H2 m2 e2 r => h H2 m2 (e.trans e2) r
  | exc x st => exact fun H2 m2 c y e2 r q => h H2 m2 c y (e.trans e2) r q
  | bad => exact h
theorem Ext.fresh {H H' : Hp} {d d' : Dm} {st : Sto} (e : Ext H d H' d') {p : Addr} (r : Rl X.K H' d' st) (hp : H' p = none) : H p = none := by
  cases q : H p with
  | none => rfl
  | some o =>
    by_cases z : p ∈ d.m
    · obtain ⟨t, ht⟩ := e.pre
      exact absurd (by rw [ht]; exact List.mem_append_left _ z) (r.new hp).1
    · rw [e.keep p o q z] at hp; cases hp
theorem AftN.ext {W : Value → Option Addr → Hp → Prop} {H H' : Hp} {d d' : Dm} {st : Sto} {o : Out (List D)} {Q : VK} (e : Ext H d H' d') (r : Rl X.K H' d' st) (h : AftN X.fx W H d o Q) : AftN X.fx W H' d' o Q := by
  cases o with
  | ok a st =>
    refine fun H2 m2 p vs e2 hp => ?_
    rw [e.ff] at e2 ⊢
    exact h H2 m2 p vs (e.trans e2) (e.fresh r hp)
  | exc x st => exact fun H2 m2 c y e2 r q => h H2 m2 c y (e.trans e2) r q
  | bad => exact h
/-- the first part, then the rest -/
theorem rdg_bnd {σ : L2.St} {H : Hp} {d : Dm} {nv : Nv} {st : Sto} {t : Nv → M α} {f : α → M β} {k : β → Sto → Hp → Dm → Prop} (r : Rl X.K H d st) (n : NvR X.K H d σ nv) (h : Aft X.fx (Wat W σ) H d (bnd (t nv) f st) k) :
    Rdg X.fx W σ H t fun a st1 H1 d1 => Rl X.K H1 d1 st1 ∧ NvR X.K H1 d1 σ nv ∧ Ext H d H1 d1 ∧ Aft X.fx (Wat W σ) H1 d1 (f a st1) k := by
  refine ⟨d, nv, st, r, n, ?_⟩
  unfold bnd at h
  cases e : t nv st with
  | ok a st1 =>
    rw [e] at h
    exact fun H1 m1 e1 r1 => ⟨r1, n.ext e1, e1, Aft.ext e1 h⟩
  | exc x st1 =>
    rw [e] at h
    exact h
  | bad =>
    rw [e] at h
    exact h
theorem Rdg.mono {σ : L2.St} {H : Hp} {t : Nv → M α} {k k' : α → Sto → Hp → Dm → Prop} (h : Rdg X.fx W σ H t k) (i : ∀ a st H' d', k a st H' d' → k' a st H' d') : Rdg X.fx W σ H t k' := by
  obtain ⟨d, nv, st, r, n, q⟩ := h
  refine ⟨d, nv, st, r, n, ?_⟩
  cases e : t nv st with
  | ok a st1 =>
    rw [e] at q
    exact fun H1 m1 e1 r1 => i _ _ _ _ (q H1 m1 e1 r1)
  | exc x st1 =>
    rw [e] at q
    exact q
  | bad =>
    rw [e] at q
    exact q
theorem aft_ret {W : Value → Option Addr → Hp → Prop} {H : Hp} {d : Dm} {st : Sto} {a : α} {k : α → Sto → Hp → Dm → Prop} (h : Aft X.fx W H d (ret a st) k) (r : Rl X.K H d st) : k a st H d := h H d (Ext.refl H d) r
theorem aft_same {W : Value → Option Addr → Hp → Prop} {H H' : Hp} {d : Dm} {st : Sto} {a : α} {k : α → Sto → Hp → Dm → Prop} (h : Aft X.fx W H d (.ok a st) k) (r : Rl X.K H d st) (s : Same H H') : k a st H' d := h H' d (Ext.same s) (r.same s)
theorem aft_lift {W : Value → Option Addr → Hp → Prop} {H : Hp} {d : Dm} {st : Sto} {o : Option α} {k : α → Sto → Hp → Dm → Prop} (h : Aft X.fx W H d (lift o st) k) : ∃ a, o = some a ∧ Aft X.fx W H d (.ok a st) k := by
  cases o with
  | none => exact False.elim h
  | some a => exact ⟨a, rfl, h⟩
theorem rdg_bndN {σ : L2.St} {H : Hp} {d : Dm} {nv : Nv} {st : Sto} {t : Nv → M α} {f : α → M (List D)} {Q : VK} (r : Rl X.K H d st) (n : NvR X.K H d σ nv) (h : AftN X.fx (Wat W σ) H d (bnd (t nv) f st) Q) :
    Rdg X.fx W σ H t fun a st1 H1 d1 => Rl X.K H1 d1 st1 ∧ NvR X.K H1 d1 σ nv ∧ Ext H d H1 d1 ∧ AftN X.fx (Wat W σ) H1 d1 (f a st1) Q := by
  refine ⟨d, nv, st, r, n, ?_⟩
  unfold bnd at h
  cases e : t nv st with
  | ok a st1 =>
    rw [e] at h
    exact fun H1 m1 e1 r1 => ⟨r1, n.ext e1, e1, AftN.ext e1 r1 h⟩
  | exc x st1 =>
    rw [e] at h
    exact h
  | bad =>
    rw [e] at h
    exact h
theorem aftN_lift {W : Value → Option Addr → Hp → Prop} {H : Hp} {d : Dm} {st : Sto} {o : Option (List D)} {Q : VK} (h : AftN X.fx W H d (lift o st) Q) : ∃ a, o = some a ∧ AftN X.fx W H d (.ok a st) Q := by
  cases o with
  | none => exact False.elim h
  | some a => exact ⟨a, rfl, h⟩
/-- a list laid anew at p -/
theorem aftN_new {W : Value → Option Addr → Hp → Prop} {H Hm H' : Hp} {d : Dm} {st : Sto} {ds : List D} {vs : List V} {p : Addr} {Q : VK} (h : AftN X.fx W H d (.ok ds st) Q) (r : Rl X.K H d st) (s : Same H Hm) (hr : RepL X.K Hm d vs ds) (hp : Hm p = none) (s' : Same Hm H') (hv : H' p = some (.lst vs)) : Q (.ref p) H' := by
  obtain ⟨m, f⟩ := d
  refine h H' m p vs (Ext.same (s.trans s')) (s.free hp) hv ((r.same s).bar s' hp (by rw [hv]; exact fun z => nomatch z)) ?_
  exact (hr.over (Over.bar hp)).over (Ext.same s').over

/-! ### names and constants -/
def cVar (i : Nat) : Tm := fun nv => match nv[i]? with
  | some (some x) => ret x
  | _ => bad
def cC (x : D) : Tm := fun _ => ret x
theorem se_var (i : Nat) {x : Str} {pos : Pos} (hN : X.N[i]? = some x := by rfl) (hv : Vis X.env.scope x := by first | exact Or.inl rfl | exact Or.inr (Or.inl rfl) | exact Or.inr (Or.inr rfl))
    (hd : (x == ("__debug__" : Str)) = false := by decide) (hcd : (x == ("__classdict__" : Str)) = false := by decide) : PE X (.Name x pos) (tI X.fx W (cVar i)) := by
  refine PE.imp (pe_var hN hv hd hcd) fun σ H Q h => ?_
  obtain ⟨d, nv, st, r, n, q⟩ := h
  cases e : nv[i]? with
  | none =>
    rw [show cVar i nv = bad by unfold cVar; rw [e]] at q
    exact False.elim q
  | some o =>
    cases o with
    | none =>
      rw [show cVar i nv = bad by unfold cVar; rw [e]] at q
      exact False.elim q
    | some y =>
      rw [show cVar i nv = ret y by unfold cVar; rw [e]] at q
      obtain ⟨v, h1, h2⟩ := n.at' i y e
      exact ⟨v, h1, aft_ret q r v h2⟩
theorem se_c {e : Expr} {v : V} {x : D} (h : PE X e (tC v)) (hr : ∀ H d, Rep X.K H d v x) : PE X e (tI X.fx W (cC x)) := by
  refine PE.imp h fun σ H Q h => ?_
  obtain ⟨d, nv, st, r, n, q⟩ := h
  exact aft_ret q r v (hr H d)
theorem se_int {i j pos} : PE X (.Constant (.int i) j pos) (tI X.fx W (cC (.int i))) := se_c pe_int fun _ _ => .int i
theorem se_bl {b j pos} : PE X (.Constant (.bool b) j pos) (tI X.fx W (cC (.bl b))) := se_c pe_bl fun _ _ => .bl b
theorem se_non {j pos} : PE X (.Constant .none j pos) (tI X.fx W (cC .non)) := se_c pe_non fun _ _ => .non
theorem se_str {x j pos} : PE X (.Constant (.str x) j pos) (tI X.fx W (cC (.str x))) := se_c pe_str fun _ _ => .str x

/-! ### operators -/
/-- what an operator does of values, no store changed; z may be a new object -/
def OpS (K : PySem.W.Frag) (r : R2) (f : Sto → D → D → Option D) : Prop := ∀ (H : Hp) (d : Dm) (st : Sto) (x y : D) (v w : V) (z : D) (Q : VK),
  Rl K H d st → Rep K H d v x → Rep K H d w y → f st x y = some z → (∀ u H', Same H H' → Rep K H' d u z → Q u H') → r v w H Q
/-- .. a new list, its items maybe made on the way -/
def OpN (K : PySem.W.Frag) (r : R2) (f : Sto → D → D → Option (List D)) : Prop := ∀ (H : Hp) (d : Dm) (st : Sto) (x y : D) (v w : V) (ds : List D) (Q : VK),
  Rl K H d st → Rep K H d v x → Rep K H d w y → f st x y = some ds → (∀ p vs Hm H', Same H Hm → RepL K Hm d vs ds → Hm p = none → Same Hm H' → H' p = some (.lst vs) → Q (.ref p) H') → r v w H Q
def c2 {α : Type} (f : Sto → D → D → Option α) (ta tb : Tm) : Nv → M α := fun nv => bnd (ta nv) fun x => bnd (tb nv) fun y => fun st => lift (f st x y) st
def c1 {α : Type} (f : Sto → D → Option α) (ta : Tm) : Nv → M α := fun nv => bnd (ta nv) fun x => fun st => lift (f st x) st
def cN {α : Type} (f : Sto → List D → Option α) (ta : Nv → M (List D)) : Nv → M α := fun nv => bnd (ta nv) fun x => fun st => lift (f st x) st
variable {a b : Expr} {ta tb : Tm} {pos : Pos}
theorem tI_c2 {r : R2} {f : Sto → D → D → Option D} (hf : OpS X.K r f) {σ : L2.St} {H : Hp} {Q : VK} (h : tI X.fx W (c2 f ta tb) σ H Q) : tOp r (tI X.fx W ta) (tI X.fx W tb) σ H Q := by
  obtain ⟨d, nv, st, r0, n0, q⟩ := h
  refine (rdg_bnd r0 n0 q).mono fun x st1 H1 d1 ⟨r1, n1, e1, q1⟩ v hv => ?_
  refine (rdg_bnd r1 n1 q1).mono fun y st2 H2 d2 ⟨r2, n2, e2, q2⟩ w hw => ?_
  obtain ⟨z, hd, q3⟩ := aft_lift q2
  exact hf H2 d2 st2 x y v w z Q r2 (hv.ext e2) hw hd fun u H' s hz => aft_same q3 r2 s u hz
theorem tIN_c2 {r : R2} {f : Sto → D → D → Option (List D)} (hf : OpN X.K r f) {σ : L2.St} {H : Hp} {Q : VK} (h : tIN X.fx W (c2 f ta tb) σ H Q) : tOp r (tI X.fx W ta) (tI X.fx W tb) σ H Q := by
  obtain ⟨d, nv, st, r0, n0, q⟩ := h
  refine (rdg_bndN r0 n0 q).mono fun x st1 H1 d1 ⟨r1, n1, e1, q1⟩ v hv => ?_
  refine (rdg_bndN r1 n1 q1).mono fun y st2 H2 d2 ⟨r2, n2, e2, q2⟩ w hw => ?_
  obtain ⟨ds, hd, q3⟩ := aftN_lift q2
  exact hf H2 d2 st2 x y v w ds Q r2 (hv.ext e2) hw hd fun p vs Hm H' s hr hp s' hv' => aftN_new q3 r2 s hr hp s' hv'
theorem se_op {op : Operator} {r : R2} {f : Sto → D → D → Option D} (ho : OpR X (binaryOp op) r) (hf : OpS X.K r f) (ha : PE X a (tI X.fx W ta)) (hb : PE X b (tI X.fx W tb)) : PE X (.BinOp a op b pos) (tI X.fx W (c2 f ta tb)) :=
  PE.imp (pe_op ho ha hb) fun _ _ _ h => tI_c2 hf h
theorem sn_op {op : Operator} {r : R2} {f : Sto → D → D → Option (List D)} (ho : OpR X (binaryOp op) r) (hf : OpN X.K r f) (ha : PE X a (tI X.fx W ta)) (hb : PE X b (tI X.fx W tb)) : PE X (.BinOp a op b pos) (tIN X.fx W (c2 f ta tb)) :=
  PE.imp (pe_op ho ha hb) fun _ _ _ h => tIN_c2 hf h
theorem se_cmp {op : CmpOp} {r : R2} {f : Sto → D → D → Option D} (ho : OpR X (compareOp op) r) (hm : behindInMarks op b = false) (hf : OpS X.K r f) (ha : PE X a (tI X.fx W ta)) (hb : PE X b (tI X.fx W tb)) : PE X (.Compare a [op] [b] pos) (tI X.fx W (c2 f ta tb)) :=
  PE.imp (pe_cmpR ho ha hb hm) fun _ _ _ h => tI_c2 hf h
/-- one-place operations -/
def UnS (K : PySem.W.Frag) (r : V → Hp → VK → Prop) (f : Sto → D → Option D) : Prop := ∀ (H : Hp) (d : Dm) (st : Sto) (x : D) (v : V) (z : D) (Q : VK),
  Rl K H d st → Rep K H d v x → f st x = some z → (∀ u H', Same H H' → Rep K H' d u z → Q u H') → r v H Q
theorem se_un {op : UnaryOp} {r : V → Hp → VK → Prop} {f : Sto → D → Option D} (ho : UnR X (unaryOp op) r) (hf : UnS X.K r f) (ha : PE X a (tI X.fx W ta)) : PE X (.UnaryOp op a pos) (tI X.fx W (c1 f ta)) := by
  refine PE.imp (pe_un ho ha) fun σ H Q h => ?_
  obtain ⟨d, nv, st, r0, n0, q⟩ := h
  refine (rdg_bnd r0 n0 q).mono fun x st1 H1 d1 ⟨r1, n1, e1, q1⟩ v hv => ?_
  obtain ⟨z, hd, q3⟩ := aft_lift q1
  exact hf H1 d1 st1 x v z Q r1 hv hd fun u H' s hz => aft_same q3 r1 s u hz

/-! ### a new list: it stands, or it is ours -/
def frz (t : Nv → M (List D)) : Tm := fun nv => bnd (t nv) fun ds => ret (.lst ds)
def alloc (o : SO) : M D := fun st => .ok (.ref st.length) (st ++ [o])
def own (t : Nv → M (List D)) : Tm := fun nv => bnd (t nv) fun ds => alloc (.lst ds)
theorem se_frz {e : Expr} {t : Nv → M (List D)} (h : PE X e (tIN X.fx W t)) : PE X e (tI X.fx W (frz t)) := by
  refine PE.imp h fun σ H Q h => ?_
  obtain ⟨d, nv, st, r0, n0, q⟩ := h
  refine ⟨d, nv, st, r0, n0, ?_⟩
  unfold frz bnd at q
  cases e : t nv st with
  | ok ds st1 =>
    rw [e] at q
    refine fun H' m' p vs e1 hp hv r1 hr => q H' ⟨m', d.f⟩ e1 r1.drop _ (.lst ⟨hv, (r1.ff p List.mem_cons_self).2, fun z => (r0.ff p z).1 hp⟩ (hr.over Over.drop))
  | exc x st1 =>
    rw [e] at q
    exact q
  | bad =>
    rw [e] at q
    exact q
theorem se_own {e : Expr} {t : Nv → M (List D)} (h : PE X e (tIN X.fx W t)) : PE X e (tI X.fx W (own t)) := by
  refine PE.imp h fun σ H Q h => ?_
  obtain ⟨d, nv, st, r0, n0, q⟩ := h
  refine ⟨d, nv, st, r0, n0, ?_⟩
  unfold own bnd at q
  cases e : t nv st with
  | ok ds st1 =>
    rw [e] at q
    refine fun H' m' p vs e1 hp hv r1 hr => ?_
    have hf : p ∉ d.f := fun z => (r0.ff p z).1 hp
    refine q H' ⟨m' ++ [p], d.f⟩ ⟨e1.keep, ?_, fun a ha hn => ?_, rfl⟩ (r1.take ⟨vs, hv, hr⟩ hf) _ (.ref ?_)
    · obtain ⟨t, ht⟩ := e1.pre
      have ht : m' = d.m ++ t := ht
      exact ⟨t ++ [p], by rw [ht, List.append_assoc]⟩
    · rcases List.mem_append.mp ha with z | z
      · exact e1.new a z hn
      · rw [List.mem_singleton.mp z]; exact hp
    · show (m' ++ [p])[st1.length]? = some p
      rw [← show m'.length = st1.length from r1.len]; simp
  | exc x st1 =>
    rw [e] at q
    exact q
  | bad =>
    rw [e] at q
    exact q
end
end PV
end

section
/-! Operators over plain values. -/
namespace PV
open PySem PySem.Spec PyProof.Rows L2

section
variable {K : PySem.W.Frag} {H : Hp} {d : Dm} {st : Sto}
theorem Rep.int_inv {v : V} {i : Int} (h : Rep K H d v (.int i)) : v = .int i := by cases h; rfl
theorem Rep.bl_inv {v : V} {i : Bool} (h : Rep K H d v (.bl i)) : v = .bl i := by cases h; rfl
theorem Rep.str_inv {v : V} {i : Str} (h : Rep K H d v (.str i)) : v = .str i := by cases h; rfl
theorem Rep.non_inv {v : V} (h : Rep K H d v .non) : v = .non := by cases h; rfl

/-- what a list or tuple holds -/
def items (st : Sto) : D → Option (List D)
  | .lst ds => some ds
  | .ro ds => some ds
  | .tup ds => some ds
  | .ref n => match st[n]? with
    | some (.lst ds) => some ds
    | _ => none
  | _ => none
/-- .. a list alone -/
def lstOf (st : Sto) : D → Option (List D)
  | .lst ds => some ds
  | .ref n => match st[n]? with
    | some (.lst ds) => some ds
    | _ => none
  | _ => none
theorem lst_of (r : Rl K H d st) {v : V} {x : D} {ds : List D} (h : Rep K H d v x) (e : lstOf st x = some ds) : ∃ a vs, v = .ref a ∧ H a = some (.lst vs) ∧ RepL K H d vs ds := by
  cases h with
  | lst h1 h2 =>
    cases e
    exact ⟨_, _, rfl, h1.1, h2⟩
  | ro _ _ => cases e
  | @ref a n h1 =>
    unfold lstOf at e
    simp only at e
    cases q : st[n]? with
    | none => rw [q] at e; cases e
    | some o =>
      rw [q] at e
      cases o with
      | lst es =>
        cases e
        obtain ⟨b, hb, vs, h2, h3⟩ := r.at' n _ q
        rw [h1] at hb; cases hb
        exact ⟨a, vs, rfl, h2, h3⟩
      | dic _ => cases e
  | non => cases e
  | bl _ => cases e
  | int _ => cases e
  | str _ => cases e
  | tup _ _ => cases e
theorem items_of (r : Rl K H d st) {v : V} {x : D} {ds : List D} (h : Rep K H d v x) (e : items st x = some ds) : ∃ a vs, v = .ref a ∧ (SqL K H a vs ∨ SqT K H a vs) ∧ RepL K H d vs ds := by
  cases x with
  | tup es =>
    cases e
    cases h with
    | tup h1 h2 => exact ⟨_, _, rfl, .inr h1.sq, h2⟩
  | lst es =>
    obtain ⟨a, vs, h1, h2, h3⟩ := lst_of (ds := ds) r h e
    exact ⟨a, vs, h1, .inl (SqL.of h2), h3⟩
  | ro es =>
    cases e
    cases h with
    | ro h1 h2 => exact ⟨_, _, rfl, .inl h1.sq, h2⟩
  | ref n =>
    obtain ⟨a, vs, h1, h2, h3⟩ := lst_of (ds := ds) r h e
    exact ⟨a, vs, h1, .inl (SqL.of h2), h3⟩
  | non => cases e
  | bl _ => cases e
  | int _ => cases e
  | str _ => cases e

/-! ### data as a whole -/
mutual
def toP (st : Sto) : Nat → D → Option PyData
  | _, .non => some .none
  | _, .bl b => some (.bool b)
  | _, .int i => some (.int i)
  | _, .str x => some (.str x)
  | n + 1, .tup xs => (toPs st n xs).map .tuple
  | n + 1, .lst xs => (toPs st n xs).map .list
  | n + 1, .ro xs => (toPs st n xs).map .list
  | n + 1, .ref k => match st[k]? with
    | some (.lst xs) => (toPs st n xs).map .list
    | _ => none
  | 0, .tup _ => none
  | 0, .lst _ => none
  | 0, .ro _ => none
  | 0, .ref _ => none
termination_by n x => (n, sizeOf x)
def toPs (st : Sto) : Nat → List D → Option (List PyData)
  | _, [] => some []
  | n, x :: xs => match toP st n x, toPs st n xs with
    | some p, some ps => some (p :: ps)
    | _, _ => none
termination_by n x => (n, sizeOf x)
end
mutual
theorem toP_dp (r : Rl K H d st) : ∀ (n : Nat) (x : D) (v : V) (p : PyData), Rep K H d v x → toP st n x = some p → Dp K H v p
  | n, .non, _, p, h, e => by
    cases h
    simp only [toP] at e
    cases e; exact .non
  | n, .bl b, _, p, h, e => by
    cases h
    simp only [toP] at e
    cases e; exact .bl b
  | n, .int b, _, p, h, e => by
    cases h
    simp only [toP] at e
    cases e; exact .int b
  | n, .str b, _, p, h, e => by
    cases h
    simp only [toP] at e
    cases e; exact .str b
  | 0, .tup _, _, p, h, e => by simp only [toP] at e; cases e
  | 0, .lst _, _, p, h, e => by simp only [toP] at e; cases e
  | 0, .ro _, _, p, h, e => by simp only [toP] at e; cases e
  | 0, .ref _, _, p, h, e => by simp only [toP] at e; cases e
  | n + 1, .tup xs, _, p, h, e => by
    simp only [toP] at e
    obtain ⟨ps, e1, rfl⟩ := Option.map_eq_some_iff.mp e
    cases h with
    | tup h1 h2 => exact .tup h1.sq (toPs_dp r n xs _ ps h2 e1)
  | n + 1, .lst xs, _, p, h, e => by
    simp only [toP] at e
    obtain ⟨ps, e1, rfl⟩ := Option.map_eq_some_iff.mp e
    cases h with
    | lst h1 h2 => exact .lst h1.sq (toPs_dp r n xs _ ps h2 e1)
  | n + 1, .ro xs, _, p, h, e => by
    simp only [toP] at e
    obtain ⟨ps, e1, rfl⟩ := Option.map_eq_some_iff.mp e
    cases h with
    | ro h1 h2 => exact .lst h1.sq (toPs_dp r n xs _ ps h2 e1)
  | n + 1, .ref k, v, p, h, e => by
    simp only [toP] at e
    cases q : st[k]? with
    | none => rw [q] at e; cases e
    | some o =>
      rw [q] at e
      cases o with
      | dic _ => cases e
      | lst xs =>
        obtain ⟨ps, e1, rfl⟩ := Option.map_eq_some_iff.mp e
        cases h with
        | ref h1 =>
          obtain ⟨b, hb, vs, h2, h3⟩ := r.at' k _ q
          rw [h1] at hb; cases hb
          exact .lst (SqL.of h2) (toPs_dp r n xs _ ps h3 e1)
termination_by n x => (n, sizeOf x)
theorem toPs_dp (r : Rl K H d st) : ∀ (n : Nat) (xs : List D) (vs : List V) (ps : List PyData), RepL K H d vs xs → toPs st n xs = some ps → DpAll K H vs ps
  | n, [], _, ps, h, e => by
    cases h
    simp only [toPs] at e
    cases e; exact .nil
  | n, x :: xs, _, ps, h, e => by
    cases h with
    | cons h1 h2 =>
      simp only [toPs] at e
      cases e1 : toP st n x with
      | none => rw [e1] at e; cases e
      | some p =>
        cases e2 : toPs st n xs with
        | none => rw [e1, e2] at e; cases e
        | some qs =>
          rw [e1, e2] at e
          cases e
          exact .cons (toP_dp r n x _ p h1 e1) (toPs_dp r n xs _ qs h2 e2)
termination_by n x => (n, sizeOf x)
end
/-- data that fits -/
def dat (st : Sto) (x : D) : Option PyData := match toP st 64 x with
  | some p => if SeqAt.shaped p = true then some p else none
  | none => none
theorem dat_of (r : Rl K H d st) {v : V} {x : D} {p : PyData} (h : Rep K H d v x) (e : dat st x = some p) : Dp K H v p ∧ SeqAt.shaped p = true := by
  unfold dat at e
  cases q : toP st 64 x with
  | none => rw [q] at e; cases e
  | some p' =>
    rw [q] at e
    simp only at e
    split at e
    · rename_i hs
      cases e
      exact ⟨toP_dp r 64 x v p h q, hs⟩
    · cases e
end
def dEq (st : Sto) (x y : D) : Option D := match dat st x, dat st y with
  | some p, some q => some (.bl (PyData.eqv p q))
  | _, _ => none
def dNe (st : Sto) (x y : D) : Option D := match dat st x, dat st y with
  | some p, some q => some (.bl (!PyData.eqv p q))
  | _, _ => none
section
variable {X : Cx}
theorem os_eq : OpS X.K (rEqD X.K) dEq := by
  intro H d st x y v w z Q r hx hy e q
  unfold dEq at e
  cases e1 : dat st x with
  | none => rw [e1] at e; cases e
  | some p =>
    cases e2 : dat st y with
    | none => rw [e1, e2] at e; cases e
    | some p' =>
      rw [e1, e2] at e
      cases e
      obtain ⟨h1, s1⟩ := dat_of r hx e1
      obtain ⟨h2, s2⟩ := dat_of r hy e2
      exact ⟨p, p', h1, h2, s1, s2, q _ H (Same.refl H) (.bl _)⟩
theorem os_ne : OpS X.K (rNeD X.K) dNe := by
  intro H d st x y v w z Q r hx hy e q
  unfold dNe at e
  cases e1 : dat st x with
  | none => rw [e1] at e; cases e
  | some p =>
    cases e2 : dat st y with
    | none => rw [e1, e2] at e; cases e
    | some p' =>
      rw [e1, e2] at e
      cases e
      obtain ⟨h1, s1⟩ := dat_of r hx e1
      obtain ⟨h2, s2⟩ := dat_of r hy e2
      exact ⟨p, p', h1, h2, s1, s2, q _ H (Same.refl H) (.bl _)⟩
end
end PV
end

section
/-! Operators, subscripts, slices, built-in functions over plain values. -/
namespace PV
open PySem PySem.Spec PyProof.Rows L2
instance {i j : Int} : Decidable (CMulW i j) := inferInstanceAs (Decidable (_ < _))
instance {i j : Int} : Decidable (CDivW i j) := inferInstanceAs (Decidable (_ ∧ _))
instance {i j : Int} : Decidable (CPow i j) := inferInstanceAs (Decidable (_ ∧ _ ∧ _))

def orO {α : Type} : Option α → Option α → Option α
  | some a, _ => some a
  | none, b => b
/-! ### + -/
def aInt (x y : D) : Option D := match x, y with
  | .int a, .int b => some (.int (a + b))
  | _, _ => none
def aStr (x y : D) : Option D := match x, y with
  | .str a, .str b => if a.length + b.length ≤ sizeLine then some (.str (a ++ b)) else none
  | _, _ => none
def aTup (x y : D) : Option D := match x, y with
  | .tup a, .tup b => if a.length + b.length ≤ sizeLine then some (.tup (a ++ b)) else none
  | _, _ => none
def aLst (st : Sto) (x y : D) : Option (List D) := match lstOf st x, lstOf st y with
  | some a, some b => if a.length + b.length ≤ sizeLine then some (a ++ b) else none
  | _, _ => none
def dAdd (st : Sto) (x y : D) : Option D := match x, y with
  | .int a, .int b => some (.int (a + b))
  | .str a, .str b => if a.length + b.length ≤ sizeLine then some (.str (a ++ b)) else none
  | .tup a, .tup b => if a.length + b.length ≤ sizeLine then some (.tup (a ++ b)) else none
  | x, y => (aLst st x y).map .lst
def rAdd4 (K : PySem.W.Frag) : R2 := fun x y H Q => ((rI0 (fun i j => .int (i + j)) x y H Q ∨ ∃ i j, x = .str i ∧ y = .str j ∧ i.length + j.length ≤ sizeLine ∧ Q (.str (i ++ j)) H) ∨ rCatA K x y H Q) ∨ rCat x y H Q
section
variable {X : Cx} {W : WX'}
theorem op_add4 : OpR X (binaryOp .Add) (rAdd4 X.K) := ((op_add.or op_add_str).or op_catA).or op_cat
theorem sq_catL {K : PySem.W.Frag} {H : Hp} {d : Dm} {st : Sto} {x y : D} {v w : V} {ds : List D} {Q : VK} (r : Rl K H d st) (hx : Rep K H d v x) (hy : Rep K H d w y) (e : aLst st x y = some ds)
    (q : ∀ p vs, H p = none → RepL K H d vs ds → Q (.ref p) (upd H p (.lst vs))) : rCat v w H Q := by
  unfold aLst at e
  cases e1 : lstOf st x with
  | none => rw [e1] at e; cases e
  | some a =>
    cases e2 : lstOf st y with
    | none => rw [e1, e2] at e; cases e
    | some b =>
      rw [e1, e2] at e
      simp only at e
      split at e
      · rename_i hl
        cases e
        obtain ⟨p1, vs, rfl, h1, r1⟩ := lst_of r hx e1
        obtain ⟨p2, ws, rfl, h2, r2⟩ := lst_of r hy e2
        exact ⟨p1, p2, vs, ws, rfl, rfl, h1, h2, by rw [r1.length, r2.length]; exact hl, fun p hp => q p _ hp (r1.append r2)⟩
      · cases e
theorem on_add : OpN X.K (rAdd4 X.K) aLst := by
  intro H d st x y v w ds Q r hx hy e q
  exact .inr (sq_catL r hx hy e fun p vs hp hr => q p vs H _ (Same.refl H) hr hp (same_upd hp) upd_same)
theorem rep_newL {K : PySem.W.Frag} {H : Hp} {d : Dm} {st : Sto} (r : Rl K H d st) {p : Addr} {vs : List V} {ds : List D} (hp : H p = none) (hr : RepL K H d vs ds) : Rep K (upd H p (.lst vs)) d (.ref p) (.lst ds) :=
  .lst ⟨upd_same, r.new hp⟩ (hr.ext (Ext.same (same_upd hp)))
theorem rep_newT {K : PySem.W.Frag} {H : Hp} {d : Dm} {st : Sto} (r : Rl K H d st) {p : Addr} {vs : List V} {ds : List D} (hp : H p = none) (hr : RepL K H d vs ds) : Rep K (upd H p (.tup vs)) d (.ref p) (.tup ds) :=
  .tup (.inl ⟨Rd.of upd_same, r.new hp⟩) (hr.ext (Ext.same (same_upd hp)))
theorem os_add : OpS X.K (rAdd4 X.K) dAdd := by
  intro H d st x y v w z Q r hx hy e q
  have gen : (aLst st x y).map .lst = some z → rAdd4 X.K v w H Q := fun e => by
    obtain ⟨ds, e1, rfl⟩ := Option.map_eq_some_iff.mp e
    exact .inr (sq_catL r hx hy e1 fun p vs hp hr => q _ _ (same_upd hp) (rep_newL r hp hr))
  unfold dAdd at e
  split at e
  · cases e
    cases hx; cases hy
    exact .inl (.inl (.inl ⟨_, _, rfl, rfl, q _ H (Same.refl H) (.int _)⟩))
  · split at e
    · rename_i hl
      cases e
      cases hx; cases hy
      exact .inl (.inl (.inr ⟨_, _, rfl, rfl, hl, q _ H (Same.refl H) (.str _)⟩))
    · cases e
  · split at e
    · rename_i a b hl
      cases e
      cases hx with
      | @tup p1 vs _ h1 r1 =>
        cases hy with
        | @tup p2 ws _ h2 r2 =>
          refine .inl (.inr ⟨p1, p2, vs, ws, rfl, rfl, h1.sq, h2.sq, by rw [r1.length, r2.length]; exact hl, fun hv => ?_, fun hv hw => ?_, fun hv hw p hp => ?_⟩)
          · subst hv
            cases r1
            exact q _ H (Same.refl H) (.tup h2 r2)
          · subst hw
            cases r2
            rw [List.append_nil] at q
            exact q _ H (Same.refl H) (.tup h1 r1)
          · exact q _ _ (same_upd hp) (rep_newT r hp (r1.append r2))
    · cases e
  · exact gen e

/-! ### -, *, //, %, ** of whole numbers -/
def dSub (_ : Sto) (x y : D) : Option D := match x, y with
  | .int a, .int b => some (.int (a - b))
  | _, _ => none
theorem os_sub : OpS X.K (rI0 fun i j => .int (i - j)) dSub := by
  intro H d st x y v w z Q r hx hy e q
  unfold dSub at e
  split at e
  · cases e
    cases hx; cases hy
    exact ⟨_, _, rfl, rfl, q _ H (Same.refl H) (.int _)⟩
  · cases e
/-- a list so many times -/
def repD (k : Int) (ds : List D) : List D := (List.replicate k.toNat ds).flatten
theorem RepL.rep {K : PySem.W.Frag} {H : Hp} {d : Dm} {vs : List V} {ds : List D} (h : RepL K H d vs ds) (n : Nat) : RepL K H d (List.replicate n vs).flatten (List.replicate n ds).flatten := by
  induction n with
  | zero => exact .nil
  | succ n ih =>
    rw [List.replicate_succ, List.replicate_succ, List.flatten_cons, List.flatten_cons]
    exact h.append ih
def mLst (st : Sto) (x y : D) : Option (List D) := match lstOf st x, y with
  | some a, .int k => if -(2 ^ 63) ≤ k ∧ k < 2 ^ 63 ∧ a.length * k.toNat ≤ sizeLine then some (repD k a) else none
  | _, _ => none
def dMul (st : Sto) (x y : D) : Option D := match x, y with
  | .int a, .int b => if CMulW a b then some (.int (a * b)) else none
  | x, y => (mLst st x y).map .lst
def rMul2 : R2 := fun x y H Q => rI CMulW (fun i j => .int (i * j)) x y H Q ∨ rRep x y H Q
theorem op_mul2 : OpR X (binaryOp .Mult) rMul2 := op_mulW.or op_rep
theorem sq_repL {K : PySem.W.Frag} {H : Hp} {d : Dm} {st : Sto} {x y : D} {v w : V} {ds : List D} {Q : VK} (r : Rl K H d st) (hx : Rep K H d v x) (hy : Rep K H d w y) (e : mLst st x y = some ds)
    (q : ∀ p vs, H p = none → RepL K H d vs ds → Q (.ref p) (upd H p (.lst vs))) : rRep v w H Q := by
  unfold mLst at e
  cases e1 : lstOf st x with
  | none => rw [e1] at e; cases e
  | some a =>
    rw [e1] at e
    cases y with
    | int k =>
      simp only at e
      split at e
      · rename_i hl
        cases e
        cases hy
        obtain ⟨p1, vs, rfl, h1, r1⟩ := lst_of r hx e1
        exact ⟨p1, k, vs, rfl, rfl, h1, hl.1, hl.2.1, by rw [r1.length]; exact hl.2.2, fun p hp => q p _ hp (r1.rep _)⟩
      · cases e
    | _ => cases e
theorem on_mul : OpN X.K rMul2 mLst := by
  intro H d st x y v w ds Q r hx hy e q
  exact .inr (sq_repL r hx hy e fun p vs hp hr => q p vs H _ (Same.refl H) hr hp (same_upd hp) upd_same)
theorem os_mul : OpS X.K rMul2 dMul := by
  intro H d st x y v w z Q r hx hy e q
  unfold dMul at e
  split at e
  · split at e
    · rename_i h
      cases e
      cases hx; cases hy
      exact .inl ⟨_, _, rfl, rfl, h, q _ H (Same.refl H) (.int _)⟩
    · cases e
  · obtain ⟨ds, e1, rfl⟩ := Option.map_eq_some_iff.mp e
    exact .inr (sq_repL r hx hy e1 fun p vs hp hr => q _ _ (same_upd hp) (rep_newL r hp hr))
def dDiv (_ : Sto) (x y : D) : Option D := match x, y with
  | .int a, .int b => if CDivW a b then some (.int (a / b)) else none
  | _, _ => none
theorem os_div : OpS X.K (rI CDivW fun i j => .int (i / j)) dDiv := by
  intro H d st x y v w z Q r hx hy e q
  unfold dDiv at e
  split at e
  · split at e
    · rename_i h
      cases e
      cases hx; cases hy
      exact ⟨_, _, rfl, rfl, h, q _ H (Same.refl H) (.int _)⟩
    · cases e
  · cases e
def dMod (_ : Sto) (x y : D) : Option D := match x, y with
  | .int a, .int b => if 0 < b then some (.int (a % b)) else none
  | _, _ => none
theorem os_mod : OpS X.K (rI (fun _ j => 0 < j) fun i j => .int (i % j)) dMod := by
  intro H d st x y v w z Q r hx hy e q
  unfold dMod at e
  split at e
  · split at e
    · rename_i h
      cases e
      cases hx; cases hy
      exact ⟨_, _, rfl, rfl, h, q _ H (Same.refl H) (.int _)⟩
    · cases e
  · cases e
def dPow (_ : Sto) (x y : D) : Option D := match x, y with
  | .int a, .int b => if CPow a b then some (.int (a ^ b.toNat)) else none
  | _, _ => none
theorem os_pow : OpS X.K (rI CPow fun i j => .int (i ^ j.toNat)) dPow := by
  intro H d st x y v w z Q r hx hy e q
  unfold dPow at e
  split at e
  · split at e
    · rename_i h
      cases e
      cases hx; cases hy
      exact ⟨_, _, rfl, rfl, h, q _ H (Same.refl H) (.int _)⟩
    · cases e
  · cases e
def dNeg (_ : Sto) (x : D) : Option D := match x with
  | .int a => some (.int (-a))
  | _ => none
theorem us_neg : UnS X.K (rU fun i => .int (-i)) dNeg := by
  intro H d st x v z Q r hx e q
  unfold dNeg at e
  split at e
  · cases e
    cases hx
    exact ⟨_, rfl, q _ H (Same.refl H) (.int _)⟩
  · cases e
/-! ### comparisons -/
def dCmp (f : Int → Int → Bool) (_ : Sto) (x y : D) : Option D := match x, y with
  | .int a, .int b => some (.bl (f a b))
  | _, _ => none
theorem os_cmp {f : Int → Int → Bool} : OpS X.K (rI0 fun i j => .bl (f i j)) (dCmp f) := by
  intro H d st x y v w z Q r hx hy e q
  unfold dCmp at e
  split at e
  · cases e
    cases hx; cases hy
    exact ⟨_, _, rfl, rfl, q _ H (Same.refl H) (.bl _)⟩
  · cases e
def D.isNon : D → Bool
  | .non => true
  | _ => false
theorem Rep.isNon {K : PySem.W.Frag} {H : Hp} {d : Dm} {v : V} {x : D} (h : Rep K H d v x) : decide (v = .non) = x.isNon := by
  cases h <;> rfl
def dIsN (_ : Sto) (x y : D) : Option D := match y with
  | .non => some (.bl x.isNon)
  | _ => none
def dNotN (_ : Sto) (x y : D) : Option D := match y with
  | .non => some (.bl (!x.isNon))
  | _ => none
theorem os_isN : OpS X.K (fun x y H Q => y = .non ∧ Q (.bl (decide (x = .non))) H) dIsN := by
  intro H d st x y v w z Q r hx hy e q
  unfold dIsN at e
  split at e
  · cases e
    cases hy
    exact ⟨rfl, by rw [hx.isNon]; exact q _ H (Same.refl H) (.bl _)⟩
  · cases e
theorem os_notN : OpS X.K (fun x y H Q => y = .non ∧ Q (.bl (!decide (x = .non))) H) dNotN := by
  intro H d st x y v w z Q r hx hy e q
  unfold dNotN at e
  split at e
  · cases e
    cases hy
    exact ⟨rfl, by rw [hx.isNon]; exact q _ H (Same.refl H) (.bl _)⟩
  · cases e
end
end PV
end

section
/-! Calls of built-in functions, displays, subscripts, slices, tests. -/
namespace PV
open PySem PySem.Spec PyProof.Rows L2
/-- what a built-in does of values -/
def CallS (K : PySem.W.Frag) (r : List V → Hp → VK → Prop) (f : Sto → List D → Option D) : Prop := ∀ (H : Hp) (d : Dm) (st : Sto) (xs : List D) (vs : List V) (z : D) (Q : VK),
  Rl K H d st → RepL K H d vs xs → f st xs = some z → (∀ u H', Same H H' → Rep K H' d u z → Q u H') → r vs H Q
/-- .. a new list -/
def CallN (K : PySem.W.Frag) (r : List V → Hp → VK → Prop) (f : Sto → List D → Option (List D)) : Prop := ∀ (H : Hp) (d : Dm) (st : Sto) (xs : List D) (vs : List V) (ds : List D) (Q : VK),
  Rl K H d st → RepL K H d vs xs → f st xs = some ds → (∀ p vs Hm H', Same H Hm → RepL K Hm d vs ds → Hm p = none → Same Hm H' → H' p = some (.lst vs) → Q (.ref p) H') → r vs H Q
section
variable {X : Cx} {W : WX'} {e : Expr} {es : List Expr} {ta : Tm} {tr : Nv → M (List D)} {pos : Pos}
/-! ### arguments -/
def aNil : Nv → M (List D) := fun _ => ret []
def aCons (ta : Tm) (tr : Nv → M (List D)) : Nv → M (List D) := fun nv => bnd (ta nv) fun x => bnd (tr nv) fun xs => ret (x :: xs)
theorem sa_nil : PA X [] (tIA X.fx W aNil) := by
  refine PA.imp pa_nil fun σ H Q h => ?_
  obtain ⟨d, nv, st, r, n, q⟩ := h
  exact aft_ret q r [] .nil
theorem sa_cons (ha : PE X e (tI X.fx W ta)) (hr : PA X es (tIA X.fx W tr)) (hs : starEach (e :: es) X.env = (false, eval e X.env) :: starEach es X.env := by rfl) : PA X (e :: es) (tIA X.fx W (aCons ta tr)) := by
  refine PA.imp (pa_cons ha hr hs) fun σ H Q h => ?_
  obtain ⟨d, nv, st, r0, n0, q⟩ := h
  refine (rdg_bnd r0 n0 q).mono fun x st1 H1 d1 ⟨r1, n1, e1, q1⟩ v hv => ?_
  refine (rdg_bnd r1 n1 q1).mono fun xs st2 H2 d2 ⟨r2, n2, e2, q2⟩ vs hvs => ?_
  exact aft_ret q2 r2 _ (.cons (hv.ext e2) hvs)
theorem tI_cN {r : List V → Hp → VK → Prop} {f : Sto → List D → Option D} (hf : CallS X.K r f) {σ : L2.St} {H : Hp} {Q : VK} (h : tI X.fx W (cN f tr) σ H Q) : tCB r (tIA X.fx W tr) σ H Q := by
  obtain ⟨d, nv, st, r0, n0, q⟩ := h
  refine (rdg_bnd r0 n0 q).mono fun xs st1 H1 d1 ⟨r1, n1, e1, q1⟩ vs hvs => ?_
  obtain ⟨z, hz, q3⟩ := aft_lift q1
  exact hf H1 d1 st1 xs vs z Q r1 hvs hz fun u H' s hu => aft_same q3 r1 s u hu
theorem tIN_cN {r : List V → Hp → VK → Prop} {f : Sto → List D → Option (List D)} (hf : CallN X.K r f) {σ : L2.St} {H : Hp} {Q : VK} (h : tIN X.fx W (cN f tr) σ H Q) : tCB r (tIA X.fx W tr) σ H Q := by
  obtain ⟨d, nv, st, r0, n0, q⟩ := h
  refine (rdg_bndN r0 n0 q).mono fun xs st1 H1 d1 ⟨r1, n1, e1, q1⟩ vs hvs => ?_
  obtain ⟨z, hz, q3⟩ := aftN_lift q1
  exact hf H1 d1 st1 xs vs z Q r1 hvs hz fun p vs Hm H' s hr hp s' hv' => aftN_new q3 r1 s hr hp s' hv'
/-- a built-in function by its name, a built-in type by its name -/
theorem se_callB {id : String} {x : Str} {p : Pos} {r : List V → Hp → VK → Prop} {f : Sto → List D → Option D} (hc : CallR X (.builtin id) r) (hf : CallS X.K r f) (hg : Gl X x) (hm : X.mg x = none) (hv : bootBuiltins x = some (.builtin id)) (ha : PA X (e :: es) (tIA X.fx W tr)) (hn : x ≠ "__name__" := by decide) (hdb : (x == ("__debug__" : Str)) = false := by decide)
    (he : starEach (e :: es) X.env = (false, eval e X.env) :: starEach es X.env := by rfl) (hpl : (backTo pos (starEach es X.env)).any (·.1) = false := by rfl) : PE X (.Call (.Name x p) (e :: es) [] pos) (tI X.fx W (cN f tr)) :=
  PE.imp (pe_callB hc hg hm hv ha hn hdb he hpl) fun _ _ _ h => tI_cN hf h
theorem se_callT {T : String} {x : Str} {p : Pos} {r : List V → Hp → VK → Prop} {f : Sto → List D → Option D} (hc : CallR X (.type T) r) (hf : CallS X.K r f) (hg : Gl X x) (hm : X.mg x = none) (hv : bootBuiltins x = some (.type T)) (ha : PA X (e :: es) (tIA X.fx W tr)) (hn : x ≠ "__name__" := by decide) (hdb : (x == ("__debug__" : Str)) = false := by decide)
    (he : starEach (e :: es) X.env = (false, eval e X.env) :: starEach es X.env := by rfl) (hpl : (backTo pos (starEach es X.env)).any (·.1) = false := by rfl) : PE X (.Call (.Name x p) (e :: es) [] pos) (tI X.fx W (cN f tr)) :=
  PE.imp (pe_callTy hc hg hm hv ha hn hdb he hpl) fun _ _ _ h => tI_cN hf h
theorem sn_callT {T : String} {x : Str} {p : Pos} {r : List V → Hp → VK → Prop} {f : Sto → List D → Option (List D)} (hc : CallR X (.type T) r) (hf : CallN X.K r f) (hg : Gl X x) (hm : X.mg x = none) (hv : bootBuiltins x = some (.type T)) (ha : PA X (e :: es) (tIA X.fx W tr)) (hn : x ≠ "__name__" := by decide) (hdb : (x == ("__debug__" : Str)) = false := by decide)
    (he : starEach (e :: es) X.env = (false, eval e X.env) :: starEach es X.env := by rfl) (hpl : (backTo pos (starEach es X.env)).any (·.1) = false := by rfl) : PE X (.Call (.Name x p) (e :: es) [] pos) (tIN X.fx W (cN f tr)) :=
  PE.imp (pe_callTy hc hg hm hv ha hn hdb he hpl) fun _ _ _ h => tIN_cN hf h
/-- a built-in function that the module imported -/
theorem se_callI {id : String} {x : Str} {p : Pos} {r : List V → Hp → VK → Prop} {f : Sto → List D → Option D} (hc : CallR X (.builtin id) r) (hf : CallS X.K r f) (hg : Gl X x) (hm : X.mg x = some (.builtin id)) (ha : PA X (e :: es) (tIA X.fx W tr)) (hdb : (x == ("__debug__" : Str)) = false := by decide)
    (he : starEach (e :: es) X.env = (false, eval e X.env) :: starEach es X.env := by rfl) (hpl : (backTo pos (starEach es X.env)).any (·.1) = false := by rfl) : PE X (.Call (.Name x p) (e :: es) [] pos) (tI X.fx W (cN f tr)) :=
  PE.imp (pe_callBfun hc hg hm ha hdb he hpl) fun _ _ _ h => tI_cN hf h

/-! ### len, abs, int, str, repr, divmod, all, list, tuple, gcd, isqrt -/
def fLen (st : Sto) (xs : List D) : Option D := match xs with
  | [.str z] => if z.length ≤ sizeLine then some (.int z.length) else none
  | [x] => (items st x).map fun ds => .int ds.length
  | _ => none
theorem cs_len : CallS X.K (fun xs H Q => ∃ x n, xs = [x] ∧ LenV X.K x H n ∧ Q (.int n) H) fLen := by
  intro H d st xs vs z Q r hxs e q
  unfold fLen at e
  split at e
  · split at e
    · rename_i hl
      cases e
      cases hxs with
      | cons h1 h2 =>
        cases h2; cases h1
        exact ⟨_, _, rfl, ⟨hl, rfl⟩, q _ H (Same.refl H) (.int _)⟩
    · cases e
  · obtain ⟨ds, e1, rfl⟩ := Option.map_eq_some_iff.mp e
    cases hxs with
    | cons h1 h2 =>
      cases h2
      obtain ⟨a, ws, rfl, h3, h4⟩ := items_of r h1 e1
      refine ⟨_, ws.length, rfl, ?_, by rw [h4.length]; exact q _ H (Same.refl H) (.int _)⟩
      rcases h3 with h3 | h3
      · exact .inl ⟨ws, h3, rfl⟩
      · exact .inr ⟨ws, h3, rfl⟩
  · cases e
def fAbs (_ : Sto) (xs : List D) : Option D := match xs with
  | [.int i] => some (.int (if i < 0 then -i else i))
  | _ => none
theorem cs_abs : CallS X.K (fun xs H Q => ∃ i, xs = [.int i] ∧ Q (.int (if i < 0 then -i else i)) H) fAbs := by
  intro H d st xs vs z Q r hxs e q
  unfold fAbs at e
  split at e
  · cases e
    cases hxs with
    | cons h1 h2 =>
      cases h2; cases h1
      exact ⟨_, rfl, q _ H (Same.refl H) (.int _)⟩
  · cases e
def fInt (_ : Sto) (xs : List D) : Option D := match xs with
  | [.int i] => some (.int i)
  | [.bl k] => some (.int (if k then 1 else 0))
  | _ => none
theorem cs_int : CallS X.K (fun xs H Q => (∃ i, xs = [.int i] ∧ Q (.int i) H) ∨ ∃ k, xs = [.bl k] ∧ Q (.int (if k then 1 else 0)) H) fInt := by
  intro H d st xs vs z Q r hxs e q
  unfold fInt at e
  split at e
  · cases e
    cases hxs with
    | cons h1 h2 =>
      cases h2; cases h1
      exact .inl ⟨_, rfl, q _ H (Same.refl H) (.int _)⟩
  · cases e
    cases hxs with
    | cons h1 h2 =>
      cases h2; cases h1
      exact .inr ⟨_, rfl, q _ H (Same.refl H) (.int _)⟩
  · cases e
def fStr (_ : Sto) (xs : List D) : Option D := match xs with
  | [.int i] => if i.natAbs.log2 < 1920 then some (.str (toString i)) else none
  | _ => none
theorem cs_str : CallS X.K (fun xs H Q => ∃ i, xs = [.int i] ∧ i.natAbs.log2 < 1920 ∧ Q (.str (toString i)) H) fStr := by
  intro H d st xs vs z Q r hxs e q
  unfold fStr at e
  split at e
  · split at e
    · rename_i hl
      cases e
      cases hxs with
      | cons h1 h2 =>
        cases h2; cases h1
        exact ⟨_, rfl, hl, q _ H (Same.refl H) (.str _)⟩
    · cases e
  · cases e
/-- repr of data -/
def rReprD (K : PySem.W.Frag) : List V → Hp → VK → Prop := fun xs H Q => ∃ x p, xs = [x] ∧ Dp K H x p ∧ p.showable = true ∧ SeqAt.shaped p = true ∧ p.shown.length ≤ sizeLine ∧ Q (.str p.shown) H
theorem call_reprD (hg : X.A.guards = some []) (hu : X.A.units + 66 < cLine) : CallR X (.builtin "repr") (rReprD X.K) := by
  intro pins s σ H xs us Q I r h
  obtain ⟨x, p, rfl, hp, hs, hz, hl, q⟩ := h
  obtain ⟨u, rfl, ru⟩ := vals1 r
  obtain ⟨as, rd⟩ := Dp.reads I p x u hp ru
  have hd := SeqAt.depth_of_shaped hz
  have nd := PyData.hasDict_of_canLay p (SeqAt.canLay_of_shaped hz)
  cases hp with
  | non => cases rd; exact PySem.P.repr_of_none ⟨.str _, H, I.tok _, ⟨_, rfl⟩, by simpa only [PyData.shown] using q⟩
  | bl b => cases rd; exact PySem.P.repr_of_bool ⟨.str _, H, I.tok _, ⟨_, rfl⟩, by simpa only [PyData.shown] using q⟩
  | int i => cases rd; exact PySem.P.repr_of_int (by simpa [PyData.showable] using hs) ⟨.str _, H, I.tok _, ⟨_, rfl⟩, by simpa only [PyData.shown] using q⟩
  | str y => cases rd; exact PySem.P.repr_of_str ⟨.str _, H, I.tok _, ⟨_, rfl⟩, by simpa only [PyData.shown] using q⟩ (by simpa only [PyData.shown] using hl)
  | lst h1 h2 =>
    cases ru
    refine repr_of_reads' rd hs (PyData.noDict_hsm nd) hg (by omega) (fun _ _ e => e) (fun h' u tk hk => ?_) hl
    exact ⟨.str _, H, I.kept hk, ⟨_, rfl⟩, q⟩
  | tup h1 h2 =>
    cases ru
    refine repr_of_reads' rd hs (PyData.noDict_hsm nd) hg (by omega) (fun _ _ e => e) (fun h' u tk hk => ?_) hl
    exact ⟨.str _, H, I.kept hk, ⟨_, rfl⟩, q⟩
def fRepr (st : Sto) (xs : List D) : Option D := match xs with
  | [x] => match dat st x with
    | some p => if p.showable = true ∧ p.shown.length ≤ sizeLine then some (.str p.shown) else none
    | none => none
  | _ => none
theorem cs_repr : CallS X.K (rReprD X.K) fRepr := by
  intro H d st xs vs z Q r hxs e q
  unfold fRepr at e
  split at e
  · split at e
    · rename_i x p hp
      split at e
      · rename_i hl
        cases e
        cases hxs with
        | cons h1 h2 =>
          cases h2
          obtain ⟨h3, h4⟩ := dat_of r h1 hp
          exact ⟨_, p, rfl, h3, hl.1, h4, hl.2, q _ H (Same.refl H) (.str _)⟩
      · cases e
    · cases e
  · cases e
instance {i j : Int} : Decidable (CDivP i j) := inferInstanceAs (Decidable (_ ∧ _))
def fDivmod (_ : Sto) (xs : List D) : Option D := match xs with
  | [.int i, .int j] => if CDivP i j then some (.tup [.int (i / j), .int (i % j)]) else none
  | _ => none
theorem cs_divmod : CallS X.K (fun xs H Q => ∃ i j, xs = [.int i, .int j] ∧ CDivP i j ∧ ∀ p, H p = none → Q (.ref p) (upd H p (.tup [.int (i / j), .int (i % j)]))) fDivmod := by
  intro H d st xs vs z Q r hxs e q
  unfold fDivmod at e
  split at e
  · split at e
    · rename_i hl
      cases e
      cases hxs with
      | cons h1 h2 =>
        cases h2 with
        | cons h3 h4 =>
          cases h4; cases h1; cases h3
          exact ⟨_, _, rfl, hl, fun p hp => q _ _ (same_upd hp) (rep_newT r hp (.cons (.int _) (.cons (.int _) .nil)))⟩
    · cases e
  · cases e
def fGcd (_ : Sto) (xs : List D) : Option D := match xs with
  | [.int a, .int b] => some (.int ((Nat.gcd a.natAbs b.natAbs : Nat) : Int))
  | _ => none
theorem cs_gcd : CallS X.K rGcd fGcd := by
  intro H d st xs vs z Q r hxs e q
  unfold fGcd at e
  split at e
  · cases e
    cases hxs with
    | cons h1 h2 =>
      cases h2 with
      | cons h3 h4 =>
        cases h4; cases h1; cases h3
        exact ⟨_, _, rfl, q _ H (Same.refl H) (.int _)⟩
  · cases e
/-- truth values -/
def bools : List D → Option (List Bool)
  | [] => some []
  | .bl b :: r => (bools r).map (b :: ·)
  | _ :: _ => none
theorem bools_of {K : PySem.W.Frag} {H : Hp} {d : Dm} : ∀ {vs : List V} {ds : List D} {bs : List Bool}, RepL K H d vs ds → bools ds = some bs → vs = bs.map V.bl
  | _, _, _, .nil, e => by cases e; rfl
  | _, _, _, .cons (x := x) h r, e => by
    cases x with
    | bl b =>
      simp only [bools] at e
      obtain ⟨cs, e1, rfl⟩ := Option.map_eq_some_iff.mp e
      cases h
      rw [bools_of r e1]; rfl
    | _ => simp [bools] at e
def fAll (st : Sto) (xs : List D) : Option D := match xs with
  | [x] => match lstOf st x with
    | some ds => (bools ds).map fun bs => .bl (bs.all id)
    | none => none
  | _ => none
theorem cs_all : CallS X.K (rAll X.K) fAll := by
  intro H d st xs vs z Q r hxs e q
  unfold fAll at e
  split at e
  · split at e
    · rename_i x ds hx
      obtain ⟨bs, e1, rfl⟩ := Option.map_eq_some_iff.mp e
      cases hxs with
      | cons h1 h2 =>
        cases h2
        obtain ⟨a, ws, rfl, h3, h4⟩ := lst_of r h1 hx
        have e2 := bools_of h4 e1
        subst e2
        exact ⟨a, bs, rfl, SqL.of h3, q _ H (Same.refl H) (.bl _)⟩
    · cases e
  · cases e
def fList (st : Sto) (xs : List D) : Option (List D) := match xs with
  | [x] => items st x
  | _ => none
theorem cn_list : CallN X.K (fun xs H Q => ∃ p ys, xs = [.ref p] ∧ (SqL X.K H p ys ∨ SqT X.K H p ys) ∧ ∀ l, H l = none → Q (.ref l) (upd H l (.lst ys))) fList := by
  intro H d st xs vs ds Q r hxs e q
  unfold fList at e
  split at e
  · cases hxs with
    | cons h1 h2 =>
      cases h2
      obtain ⟨a, ws, rfl, h3, h4⟩ := items_of r h1 e
      exact ⟨a, ws, rfl, h3, fun l hl => q l ws H _ (Same.refl H) h4 hl (same_upd hl) upd_same⟩
  · cases e
def fTuple (st : Sto) (xs : List D) : Option D := match xs with
  | [x] => (items st x).map .tup
  | _ => none
theorem cs_tuple : CallS X.K (fun xs H Q => ∃ p ys, xs = [.ref p] ∧ ((SqL X.K H p ys ∧ ∀ l, H l = none → Q (.ref l) (upd H l (.tup ys))) ∨ (SqT X.K H p ys ∧ Q (.ref p) H))) fTuple := by
  intro H d st xs vs z Q r hxs e q
  unfold fTuple at e
  split at e
  · rename_i x
    obtain ⟨ds, e1, rfl⟩ := Option.map_eq_some_iff.mp e
    cases hxs with
    | cons h1 h2 =>
      cases h2
      cases x with
      | tup es =>
        cases e1
        cases h1 with
        | tup h3 h4 => exact ⟨_, _, rfl, .inr ⟨h3.sq, q _ H (Same.refl H) (.tup h3 h4)⟩⟩
      | ro es =>
        cases e1
        cases h1 with
        | ro h3 h4 => exact ⟨_, _, rfl, .inl ⟨h3.sq, fun l hl => q _ _ (same_upd hl) (rep_newT r hl h4)⟩⟩
      | lst es =>
        obtain ⟨a, ws, rfl, h3, h4⟩ := lst_of r h1 e1
        exact ⟨a, ws, rfl, .inl ⟨SqL.of h3, fun l hl => q _ _ (same_upd hl) (rep_newT r hl h4)⟩⟩
      | ref n =>
        obtain ⟨a, ws, rfl, h3, h4⟩ := lst_of r h1 e1
        exact ⟨a, ws, rfl, .inl ⟨SqL.of h3, fun l hl => q _ _ (same_upd hl) (rep_newT r hl h4)⟩⟩
      | _ => cases e1
  · cases e
end
end PV
end

section
/-! isinstance, displays, subscripts, slices, dicts, tests. -/
namespace PV
open PySem PySem.Spec PyProof.Rows L2
/-! ### isinstance -/
def tyD (st : Sto) : D → Option String
  | .non => some "NoneType"
  | .bl _ => some "bool"
  | .int _ => some "int"
  | .str _ => some "str"
  | .tup _ => some "tuple"
  | .lst _ => some "list"
  | .ro _ => some "list"
  | .ref n => match st[n]? with
    | some (.lst _) => some "list"
    | some (.dic _) => some "dict"
    | none => none
theorem tyD_of {K : PySem.W.Frag} {H : Hp} {d : Dm} {st : Sto} (r : Rl K H d st) {v : V} {x : D} {t : String} (h : Rep K H d v x) (e : tyD st x = some t) : TyX K H v (.type t) := by
  cases h with
  | non => cases e; exact .base .non
  | bl b => cases e; exact .base (.bl b)
  | int b => cases e; exact .base (.int b)
  | str b => cases e; exact .base (.str b)
  | tup h1 _ =>
    cases e
    rcases h1 with ⟨h1 | ⟨o, h1⟩, _⟩ | h1
    · exact .base (.tup h1)
    · exact .fTuple h1
    · rcases h1 (fun _ => none) with z | ⟨o, its, n, h2, h3, _⟩
      · rcases z with z | ⟨_, z⟩ <;> cases z
      · exact .kTuple h2 h3
  | lst h1 _ => cases e; exact .base (.lst h1.1)
  | ro h1 _ =>
    cases e
    rcases h1 with ⟨h1 | ⟨o, h1⟩, _⟩ | h1
    · exact .base (.lst h1)
    · exact .base (.frz h1)
    · rcases h1 (fun _ => none) with z | ⟨o, its, n, h2, h3, _⟩
      · rcases z with z | ⟨_, z⟩ <;> cases z
      · exact .kList h2 h3
  | @ref a n h1 =>
    unfold tyD at e
    cases q : st[n]? with
    | none => simp only [q] at e; cases e
    | some o =>
      simp only [q] at e
      obtain ⟨b, hb, h2⟩ := r.at' n o q
      rw [h1] at hb; cases hb
      cases o with
      | lst ds =>
        cases e
        obtain ⟨vs, h3, _⟩ := h2
        exact .base (.lst h3)
      | dic ds =>
        cases e
        obtain ⟨vs, h3, _⟩ := h2
        exact .base (.dK h3)
/-- the built-in types that are asked of -/
def isaB (t n : String) : Option Bool :=
  if (t == "NoneType" || t == "bool" || t == "int" || t == "str" || t == "tuple" || t == "list" || t == "dict") && (n == "bool" || n == "int" || n == "str" || n == "tuple" || n == "list" || n == "dict")
  then some (t == n || (t == "bool" && n == "int")) else none
theorem isaB_ok {K : PySem.W.Frag} {t n : String} {b : Bool} (e : isaB t n = some b) : PySem.W.kitOne K (.type t) (.type n) = some b := by
  unfold isaB at e
  split at e
  · rename_i h
    rw [Bool.and_eq_true] at h
    obtain ⟨h1, h2⟩ := h
    simp only [Bool.or_eq_true, beq_iff_eq] at h1 h2
    cases e
    refine kit_ty ?_
    rcases h1 with ((((((rfl | rfl) | rfl) | rfl) | rfl) | rfl) | rfl) <;> rcases h2 with (((((rfl | rfl) | rfl) | rfl) | rfl) | rfl) <;> decide +kernel
  · cases e
def isaL (t : String) : List String → Option Bool
  | [] => some false
  | n :: r => match isaB t n with
    | some true => some true
    | some false => isaL t r
    | none => none
theorem isaL_ok {K : PySem.W.Frag} {t : String} : ∀ {ns : List String} {b : Bool}, isaL t ns = some b → PySem.W.kitAny K (.type t) (ns.map Value.type) = some b
  | [], b, e => by cases e; rfl
  | n :: r, b, e => by
    unfold isaL at e
    cases q : isaB t n with
    | none => rw [q] at e; cases e
    | some c =>
      rw [q] at e
      cases c with
      | true =>
        cases e
        exact kitAny_cons (isaB_ok q) (fun z => nomatch z) fun _ => rfl
      | false => exact kitAny_cons (isaB_ok q) (fun _ => isaL_ok e) fun z => nomatch z
def dIsa (n : String) (st : Sto) (x : D) : Option D := match tyD st x with
  | some t => (isaB t n).map .bl
  | none => none
def dIsaL (ns : List String) (st : Sto) (x : D) : Option D := match tyD st x with
  | some t => (isaL t ns).map .bl
  | none => none
section
variable {X : Cx} {W : WX'} {a b c e : Expr} {ta tb : Tm} {pos : Pos}
theorem clsVs : ∀ ns : List String, Paired ClsV (ns.map V.ty) (ns.map Value.type)
  | [] => .nil
  | n :: r => .cons (.ty n) (clsVs r)
/-- isinstance(x, T) -/
theorem se_isa {n : String} {p : Pos} (hg : Gl X "isinstance") (hm : X.mg "isinstance" = none) (hv : bootBuiltins "isinstance" = some (.builtin "isinstance")) (ha : PE X a (tI X.fx W ta)) (hc : PE X c (tC (.ty n)))
    (h1 : starEach [a, c] X.env = (false, eval a X.env) :: starEach [c] X.env := by rfl) (h2 : starEach [c] X.env = (false, eval c X.env) :: starEach [] X.env := by rfl) (hpl : (backTo pos (starEach [c] X.env)).any (·.1) = false := by rfl) :
    PE X (.Call (.Name "isinstance" p) [a, c] [] pos) (tI X.fx W (c1 (dIsa n) ta)) := by
  refine PE.imp (pe_callB call_isi hg hm hv (pa_cons ha (pa_cons hc pa_nil h2) h1) (by decide) (by decide) h1 hpl) fun σ H Q h => ?_
  obtain ⟨d, nv, st, r0, n0, q⟩ := h
  refine (rdg_bnd r0 n0 q).mono fun x st1 H1 d1 ⟨r1, n1, e1, q1⟩ v hv => ?_
  obtain ⟨z, hz, q3⟩ := aft_lift q1
  unfold dIsa at hz
  cases e2 : tyD st1 x with
  | none => rw [e2] at hz; cases hz
  | some t =>
    rw [e2] at hz
    obtain ⟨k, e3, rfl⟩ := Option.map_eq_some_iff.mp hz
    exact ⟨v, .ty n, _, _, k, rfl, .ty n, tyD_of r1 hv e2, isaB_ok e3, aft_same q3 r1 (Same.refl H1) _ (.bl k)⟩
/-- isinstance(x, (T, U)) -/
theorem se_isaL {ns : List String} {p pt : Pos} {cs : List Expr} {x1} {tcs : TA} (hg : Gl X "isinstance") (hm : X.mg "isinstance" = none) (hv : bootBuiltins "isinstance" = some (.builtin "isinstance")) (ha : PE X a (tI X.fx W ta)) (hc : PA X cs tcs) (ht : ∀ σ H Q, Q (ns.map V.ty) H → tcs σ H Q) (hl : ns.length ≤ 16)
    (h1 : starEach [a, .Tuple cs x1 pt] X.env = (false, eval a X.env) :: starEach [.Tuple cs x1 pt] X.env := by rfl) (h2 : starEach [.Tuple cs x1 pt] X.env = (false, eval (.Tuple cs x1 pt) X.env) :: starEach [] X.env := by rfl) (hpl : (backTo pos (starEach [.Tuple cs x1 pt] X.env)).any (·.1) = false := by rfl) :
    PE X (.Call (.Name "isinstance" p) [a, .Tuple cs x1 pt] [] pos) (tI X.fx W (c1 (dIsaL ns) ta)) := by
  refine PE.imp (pe_callB call_isiT hg hm hv (pa_cons ha (pa_cons (pe_tup hc) pa_nil h2) h1) (by decide) (by decide) h1 hpl) fun σ H Q h => ?_
  obtain ⟨d, nv, st, r0, n0, q⟩ := h
  refine (rdg_bnd r0 n0 q).mono fun x st1 H1 d1 ⟨r1, n1, e1, q1⟩ v hv => ?_
  obtain ⟨z, hz, q3⟩ := aft_lift q1
  unfold dIsaL at hz
  cases e2 : tyD st1 x with
  | none => rw [e2] at hz; cases hz
  | some t =>
    rw [e2] at hz
    obtain ⟨k, e3, rfl⟩ := Option.map_eq_some_iff.mp hz
    refine ht _ _ _ ⟨by rw [List.length_map]; exact Nat.le_trans hl (by decide), fun tp hp => ?_⟩
    have s := same_upd (o := .tup (ns.map V.ty)) hp
    exact ⟨v, tp, _, _, _, k, rfl, upd_same, clsVs ns, tyD_of (r1.same s) (hv.ext (Ext.same s)) e2, isaL_ok e3, aft_same q3 r1 s _ (.bl k)⟩
theorem tc_ty {x : Str} {n : String} {p : Pos} (hg : Gl X x) (hm : X.mg x = none) (hv : bootBuiltins x = some (.type n)) (hn : x ≠ "__name__" := by decide) (hd : (x == ("__debug__" : Str)) = false := by decide) : PE X (.Name x p) (tC (.ty n)) :=
  pe_bltn hg hm hv rfl hn hd

/-! ### displays -/
variable {es : List Expr} {tr : Nv → M (List D)}
def cTup (tr : Nv → M (List D)) : Tm := fun nv => bnd (tr nv) fun xs => if xs.length ≤ sizeLine then ret (.tup xs) else bad
def cLst (tr : Nv → M (List D)) : Nv → M (List D) := fun nv => bnd (tr nv) fun xs => if xs.length ≤ sizeLine then ret xs else bad
theorem se_tup {x1} (h : PA X es (tIA X.fx W tr)) : PE X (.Tuple es x1 pos) (tI X.fx W (cTup tr)) := by
  refine PE.imp (pe_tup h) fun σ H Q h => ?_
  obtain ⟨d, nv, st, r0, n0, q⟩ := h
  refine (rdg_bnd r0 n0 q).mono fun xs st1 H1 d1 ⟨r1, n1, e1, q1⟩ vs hv => ?_
  split at q1
  · rename_i hl
    exact ⟨by rw [hv.length]; exact hl, fun p hp => aft_same q1 r1 (same_upd hp) _ (rep_newT r1 hp hv)⟩
  · exact False.elim q1
theorem sn_lst (h : PA X es (tIA X.fx W tr)) : PE X (.List es pos) (tIN X.fx W (cLst tr)) := by
  refine PE.imp (pe_lst h) fun σ H Q h => ?_
  obtain ⟨d, nv, st, r0, n0, q⟩ := h
  refine (rdg_bndN r0 n0 q).mono fun xs st1 H1 d1 ⟨r1, n1, e1, q1⟩ vs hv => ?_
  split at q1
  · rename_i hl
    exact ⟨by rw [hv.length]; exact hl, fun p hp => aftN_new q1 r1 (Same.refl H1) hv hp (same_upd hp) upd_same⟩
  · exact False.elim q1

/-! ### subscripts, slices -/
def dIx (st : Sto) (x y : D) : Option D := match x, y with
  | .str z, .int i => if z.length ≤ sizeLine then (atI z.cps.toList i).map fun c => .str ⟨#[c]⟩ else none
  | x, .int i => match items st x with
    | some ds => atI ds i
    | none => none
  | _, _ => none
theorem atI_rep {K : PySem.W.Frag} {H : Hp} {d : Dm} {vs : List V} {ds : List D} {i : Int} {x : D} (r : RepL K H d vs ds) (e : atI ds i = some x) : ∃ v, atI vs i = some v ∧ Rep K H d v x := by
  unfold atI at e ⊢
  rw [r.length]
  cases q : ixN ds.length i with
  | none => rw [q] at e; cases e
  | some j =>
    rw [q] at e
    exact r.get e
theorem os_ix : OpS X.K (rIx X.K) dIx := by
  intro H d st x y v w z Q r hx hy e q
  unfold dIx at e
  split at e
  · split at e
    · rename_i hl
      obtain ⟨cc, e1, rfl⟩ := Option.map_eq_some_iff.mp e
      cases hx; cases hy
      exact .inr (.inr ⟨_, _, cc, rfl, rfl, hl, e1, q _ H (Same.refl H) (.str _)⟩)
    · cases e
  · split at e
    · rename_i ds hd
      cases hy
      obtain ⟨p, vs, rfl, h1, h2⟩ := items_of r hx hd
      obtain ⟨u, e1, hu⟩ := atI_rep h2 e
      rcases h1 with h1 | h1
      · exact .inl ⟨p, vs, _, u, rfl, rfl, h1, e1, q _ H (Same.refl H) hu⟩
      · exact .inr (.inl ⟨p, vs, _, u, rfl, rfl, h1, e1, q _ H (Same.refl H) hu⟩)
    · cases e
  · cases e
theorem se_ix (ha : PE X a (tI X.fx W ta)) (hb : PE X b (tI X.fx W tb)) (hs : PlainIx b) : PE X (.Subscript a b pos) (tI X.fx W (c2 dIx ta tb)) :=
  PE.imp (pe_ix ix_seq ha hb hs) fun _ _ _ h => tI_c2 os_ix h
/-- one end of a slice -/
def tIO (F : Fx) (W : WX') (t : Nv → M (Option Int)) : TO := fun σ H Q => Rdg F W σ H t fun i _ H' _ => Q i H'
def cNo : Nv → M (Option Int) := fun _ => ret none
def cPart (ta : Tm) : Nv → M (Option Int) := fun nv => bnd (ta nv) fun x => match x with
  | .int i => ret (some i)
  | _ => bad
theorem PO.imp {e : Option Expr} {t t' : TO} (h : PO X e t) (i : ∀ σ H Q, t' σ H Q → t σ H Q) : PO X e t' := ⟨fun pins s σ H Q I q => h.run pins s σ H Q I (i σ H Q q)⟩
theorem so_no : PO X none (tIO X.fx W cNo) := PO.imp po_none fun σ H Q h => by
  obtain ⟨d, nv, st, r0, n0, q⟩ := h
  exact aft_ret q r0
theorem so_some (ha : PE X a (tI X.fx W ta)) : PO X (some a) (tIO X.fx W (cPart ta)) := PO.imp (po_some ha) fun σ H Q h => by
  obtain ⟨d, nv, st, r0, n0, q⟩ := h
  refine (rdg_bnd r0 n0 q).mono fun x st1 H1 d1 ⟨r1, n1, e1, q1⟩ v hv => ?_
  cases x with
  | int i =>
    cases hv
    exact ⟨i, rfl, aft_ret q1 r1⟩
  | _ => exact False.elim q1
def cutD {α : Type} (xs : List α) (lo hi : Option Int) : List α := (xs.drop (HT.sIx xs.length 0 lo)).take (HT.sIx xs.length xs.length hi - HT.sIx xs.length 0 lo)
theorem cutD_whole {ds : List D} {n : Nat} {lo hi : Option Int} (h : n = ds.length) (w : HT.sIx n 0 lo = 0 ∧ HT.sIx n n hi = n) : cutD ds lo hi = ds := by
  subst h
  unfold cutD
  rw [w.1, w.2]
  simp
theorem RepL.cut {K : PySem.W.Frag} {H : Hp} {d : Dm} {vs : List V} {ds : List D} (r : RepL K H d vs ds) (lo hi : Option Int) : RepL K H d (cutV vs lo hi) (cutD ds lo hi) := by
  unfold cutV cutD
  rw [r.length]
  exact RepL.take _ (RepL.drop _ r)
def dSl (st : Sto) (x : D) (lo hi : Option Int) : Option D := match x with
  | .str z => if z.length ≤ sizeLine then some (.str (cutS z lo hi)) else none
  | .tup ds => some (.tup (cutD ds lo hi))
  | x => (items st x).map fun ds => .lst (cutD ds lo hi)
def lSl (st : Sto) (x : D) (lo hi : Option Int) : Option (List D) := match x with
  | .tup _ => none
  | x => (items st x).map fun ds => cutD ds lo hi
def rSl3 (K : PySem.W.Frag) : V → Option Int → Option Int → Hp → VK → Prop := fun x lo hi H Q => (rSlL K x lo hi H Q ∨ rSlA K x lo hi H Q) ∨ rSlS x lo hi H Q
theorem sl_3 : SlR X (rSl3 X.K) := (sl_list.or sl_tupA).or sl_str
variable {lo hi : Option Expr} {tl th : Nv → M (Option Int)} {p2 : Pos}
def cSl {α : Type} (f : Sto → D → Option Int → Option Int → Option α) (ta : Tm) (tl th : Nv → M (Option Int)) : Nv → M α := fun nv => bnd (ta nv) fun x => bnd (tl nv) fun l => bnd (th nv) fun h => fun st => lift (f st x l h) st
theorem items_lst {K : PySem.W.Frag} {H : Hp} {d : Dm} {st : Sto} (r : Rl K H d st) {v : V} {x : D} {ds : List D} (h : Rep K H d v x) (nt : ∀ es, x ≠ .tup es) (e : items st x = some ds) : ∃ a vs, v = .ref a ∧ SqL K H a vs ∧ RepL K H d vs ds := by
  cases x with
  | tup es => exact absurd rfl (nt es)
  | ro es =>
    cases e
    cases h with
    | ro h1 h2 => exact ⟨_, _, rfl, h1.sq, h2⟩
  | lst es =>
    obtain ⟨a, vs, h1, h2, h3⟩ := lst_of (ds := ds) r h e
    exact ⟨a, vs, h1, SqL.of h2, h3⟩
  | ref n =>
    obtain ⟨a, vs, h1, h2, h3⟩ := lst_of (ds := ds) r h e
    exact ⟨a, vs, h1, SqL.of h2, h3⟩
  | _ => cases e
theorem se_sl (ha : PE X a (tI X.fx W ta)) (hl : PO X lo (tIO X.fx W tl)) (hh : PO X hi (tIO X.fx W th)) : PE X (.Subscript a (.Slice lo hi none p2) pos) (tI X.fx W (cSl dSl ta tl th)) := by
  refine PE.imp (pe_slice sl_3 ha hl hh) fun σ H Q h => ?_
  obtain ⟨d, nv, st, r0, n0, q⟩ := h
  refine (rdg_bnd r0 n0 q).mono fun x st1 H1 d1 ⟨r1, n1, e1, q1⟩ v hv => ?_
  refine (rdg_bnd r1 n1 q1).mono fun l st2 H2 d2 ⟨r2, n2, e2, q2⟩ => ?_
  refine (rdg_bnd r2 n2 q2).mono fun u st3 H3 d3 ⟨r3, n3, e3, q3⟩ => ?_
  obtain ⟨z, hz, q4⟩ := aft_lift q3
  have hx := (hv.ext e2).ext e3
  unfold dSl at hz
  split at hz
  · split at hz
    · rename_i hl
      cases hz; cases hx
      exact .inr ⟨_, rfl, hl, aft_same q4 r3 (Same.refl H3) _ (.str _)⟩
    · cases hz
  · cases hz
    cases hx with
    | @tup p vs _ h1 h2 =>
      refine .inl (.inr ⟨p, vs, rfl, h1.sq, fun hw => ?_, fun hw p' hp => ?_⟩)
      · refine aft_same q4 r3 (Same.refl H3) _ ?_
        rw [cutD_whole h2.length hw]
        exact .tup h1 h2
      · exact aft_same q4 r3 (same_upd hp) _ (rep_newT r3 hp (h2.cut l u))
  · rename_i x' nt
    obtain ⟨ds, e5, rfl⟩ := Option.map_eq_some_iff.mp hz
    obtain ⟨p, vs, rfl, h1, h2⟩ := items_lst r3 hx (fun es => by rintro rfl; exact nt es rfl) e5
    exact .inl (.inl ⟨p, vs, rfl, h1, fun p' hp => aft_same q4 r3 (same_upd hp) _ (rep_newL r3 hp (h2.cut l u))⟩)
theorem sn_sl (ha : PE X a (tI X.fx W ta)) (hl : PO X lo (tIO X.fx W tl)) (hh : PO X hi (tIO X.fx W th)) : PE X (.Subscript a (.Slice lo hi none p2) pos) (tIN X.fx W (cSl lSl ta tl th)) := by
  refine PE.imp (pe_slice sl_3 ha hl hh) fun σ H Q h => ?_
  obtain ⟨d, nv, st, r0, n0, q⟩ := h
  refine (rdg_bndN r0 n0 q).mono fun x st1 H1 d1 ⟨r1, n1, e1, q1⟩ v hv => ?_
  refine (rdg_bndN r1 n1 q1).mono fun l st2 H2 d2 ⟨r2, n2, e2, q2⟩ => ?_
  refine (rdg_bndN r2 n2 q2).mono fun u st3 H3 d3 ⟨r3, n3, e3, q3⟩ => ?_
  obtain ⟨z, hz, q4⟩ := aftN_lift q3
  have hx := (hv.ext e2).ext e3
  unfold lSl at hz
  split at hz
  · cases hz
  · rename_i x' nt
    obtain ⟨ds, e5, rfl⟩ := Option.map_eq_some_iff.mp hz
    obtain ⟨p, vs, rfl, h1, h2⟩ := items_lst r3 hx (fun es => by rintro rfl; exact nt es rfl) e5
    exact .inl (.inl ⟨p, vs, rfl, h1, fun p' hp => aftN_new q4 r3 (Same.refl H3) (h2.cut l u) hp (same_upd hp) upd_same⟩)
/-- x[::-1] of a list -/
def lRev (st : Sto) (x : D) : Option (List D) := match x with
  | .tup _ => none
  | x => (items st x).map List.reverse
theorem sn_rev {k : Nat} {p1 p3 p4 : Pos} (ha : PE X a (tI X.fx W ta)) : PE X (.Subscript a (.Slice none none (some (.UnaryOp .USub (.Constant (.int 1) k p1) p3)) p4) pos) (tIN X.fx W (c1 lRev ta)) := by
  refine PE.imp (pe_revL ha) fun σ H Q h => ?_
  obtain ⟨d, nv, st, r0, n0, q⟩ := h
  refine (rdg_bndN r0 n0 q).mono fun x st1 H1 d1 ⟨r1, n1, e1, q1⟩ v hv => ?_
  obtain ⟨z, hz, q4⟩ := aftN_lift q1
  unfold lRev at hz
  split at hz
  · cases hz
  · rename_i x' nt
    obtain ⟨ds, e5, rfl⟩ := Option.map_eq_some_iff.mp hz
    obtain ⟨p, vs, rfl, h1, h2⟩ := items_lst r1 hv (fun es => by rintro rfl; exact nt es rfl) e5
    exact ⟨p, vs, rfl, h1, fun p' hp => aftN_new q4 r1 (Same.refl H1) h2.reverse hp (same_upd hp) upd_same⟩
end
end PV
end

section
/-! Dicts, tests. -/
namespace PV
open PySem PySem.Spec PyProof.Rows L2
section
variable {K : PySem.W.Frag} {H H' : Hp} {d d' : Dm} {st : Sto}
def keyD : D → Option Key
  | .int i => some (.inl i)
  | .str x => some (.inr x)
  | _ => none
theorem keyD_of {v : V} {x : D} {k : Key} (h : Rep K H d v x) (e : keyD x = some k) : v = kV k := by
  cases h <;> cases e <;> rfl
def valD (kvs : List (Key × D)) (k : Key) : Option D := (kvs.find? fun kv => decide (kv.1 = k)).map (·.2)
def putD (kvs : List (Key × D)) (k : Key) (x : D) : List (Key × D) :=
  if (kvs.any fun kv => decide (kv.1 = k)) = true then kvs.map (fun kv => if kv.1 = k then (kv.1, x) else kv) else kvs ++ [(k, x)]
def mergeD (kvs more : List (Key × D)) : List (Key × D) := more.foldl (fun acc kv => putD acc kv.1 kv.2) kvs
theorem RepKV.val : ∀ {vs : List (Key × V)} {ds : List (Key × D)} {k : Key}, RepKV K H d vs ds → (∀ x, valD ds k = some x → ∃ v, valV vs k = some v ∧ Rep K H d v x) ∧ (valD ds k = none → valV vs k = none)
  | _, _, _, .nil => ⟨fun _ e => (nomatch e), fun _ => rfl⟩
  | _, _, k, .cons (k := k0) (v := v) (x := x) h r => by
    by_cases e : k0 = k
    · subst e
      exact ⟨fun y hy => ⟨v, valV_pos rfl, (by simp [valD] at hy; rw [← hy]; exact h)⟩, fun z => (by simp [valD] at z)⟩
    · obtain ⟨h1, h2⟩ := RepKV.val (k := k) r
      refine ⟨fun y hy => ?_, fun z => ?_⟩
      · rw [valV_neg e]
        exact h1 y (by simpa [valD, e] using hy)
      · rw [valV_neg e]
        exact h2 (by simpa [valD, e] using z)
theorem RepKV.any : ∀ {vs : List (Key × V)} {ds : List (Key × D)} {k : Key}, RepKV K H d vs ds → (vs.any fun kv => decide (kv.1 = k)) = (ds.any fun kv => decide (kv.1 = k))
  | _, _, _, .nil => rfl
  | _, _, _, .cons h r => by simp only [List.any_cons, RepKV.any r]
theorem RepKV.mapIf {v : V} {x : D} {k : Key} (q : Rep K H d v x) : ∀ {vs : List (Key × V)} {ds : List (Key × D)}, RepKV K H d vs ds → RepKV K H d (vs.map fun kv => if kv.1 = k then (kv.1, v) else kv) (ds.map fun kv => if kv.1 = k then (kv.1, x) else kv)
  | _, _, .nil => .nil
  | _, _, .cons (k := k0) h r => by
    simp only [List.map_cons]
    by_cases e : k0 = k
    · rw [if_pos e, if_pos e]; exact .cons q (RepKV.mapIf q r)
    · rw [if_neg e, if_neg e]; exact .cons h (RepKV.mapIf q r)
theorem RepKV.snoc {v : V} {x : D} {k : Key} (q : Rep K H d v x) : ∀ {vs : List (Key × V)} {ds : List (Key × D)}, RepKV K H d vs ds → RepKV K H d (vs ++ [(k, v)]) (ds ++ [(k, x)])
  | _, _, .nil => .cons q .nil
  | _, _, .cons h r => .cons h (RepKV.snoc q r)
theorem RepKV.put {v : V} {x : D} {k : Key} (q : Rep K H d v x) {vs : List (Key × V)} {ds : List (Key × D)} (r : RepKV K H d vs ds) : RepKV K H d (putK vs k v) (putD ds k x) := by
  unfold putK putD
  rw [r.any]
  split
  · exact r.mapIf q
  · exact r.snoc q
theorem RepKV.merge : ∀ {more : List (Key × V)} {mds : List (Key × D)} {vs : List (Key × V)} {ds : List (Key × D)}, RepKV K H d more mds → RepKV K H d vs ds → RepKV K H d (mergeK vs more) (mergeD ds mds)
  | _, _, _, _, .nil, r => r
  | _, _, _, _, .cons (k := k) (v := v) (x := x) (vs := more) (ds := mds) h m, r => by
    show RepKV K H d (mergeK (putK _ k v) more) (mergeD (putD _ k x) mds)
    exact RepKV.merge m (r.put h)
theorem RepKV.length : ∀ {vs : List (Key × V)} {ds : List (Key × D)}, RepKV K H d vs ds → vs.length = ds.length
  | _, _, .nil => rfl
  | _, _, .cons h r => by simp [RepKV.length r]
def dicOf (st : Sto) : D → Option (List (Key × D))
  | .ref n => match st[n]? with
    | some (.dic kvs) => some kvs
    | _ => none
  | _ => none
theorem dic_of (r : Rl K H d st) {v : V} {x : D} {ds : List (Key × D)} (h : Rep K H d v x) (e : dicOf st x = some ds) : ∃ n a vs, x = .ref n ∧ v = .ref a ∧ d.m[n]? = some a ∧ st[n]? = some (.dic ds) ∧ H a = some (.dK vs) ∧ RepKV K H d vs ds := by
  cases h with
  | @ref a n h1 =>
    unfold dicOf at e
    simp only at e
    cases q : st[n]? with
    | none => rw [q] at e; cases e
    | some o =>
      rw [q] at e
      cases o with
      | lst _ => cases e
      | dic es =>
        cases e
        obtain ⟨b, hb, vs, h2, h3⟩ := r.at' n _ q
        rw [h1] at hb; cases hb
        exact ⟨n, a, vs, rfl, rfl, h1, q, h2, h3⟩
  | non => cases e
  | bl _ => cases e
  | int _ => cases e
  | str _ => cases e
  | tup _ _ => cases e
  | lst _ _ => cases e
  | ro _ _ => cases e
theorem RepF.over (e : Over K H d H' d') : ∀ {vs : List (Str × V)} {ds : List (Str × D)}, RepF K H d vs ds → RepF K H' d' vs ds
  | _, _, .nil => .nil
  | _, _, .cons h r => .cons (h.over e) (RepF.over e r)
/-- what is kept free may change -/
theorem Over.putF {m f : List Addr} {p : Addr} {u : HO} : Over K H ⟨m, p :: f⟩ (upd H p u) ⟨m, p :: f⟩ := by
  have ne : ∀ {a : Addr}, Off ⟨m, p :: f⟩ a → a ≠ p := fun n z => n.2 (by rw [z]; exact List.mem_cons_self)
  have rd : ∀ {a : Addr} {o : HO}, Off ⟨m, p :: f⟩ a → Rd H a o → Rd (upd H p u) a o := fun n h => by
    rcases h with h | ⟨ob, h⟩
    · exact .inl (by rw [upd_ne (ne n)]; exact h)
    · exact .inr ⟨ob, by rw [upd_ne (ne n)]; exact h⟩
  refine ⟨fun a vs h => ?_, fun a vs h => ⟨by rw [upd_ne (ne h.2)]; exact h.1, h.2⟩, fun a vs h => ?_, fun _ _ h => h⟩
  · rcases h with ⟨h, n⟩ | h
    · exact .inl ⟨rd n h, n⟩
    · exact .inr h
  · rcases h with ⟨h, n⟩ | h
    · exact .inl ⟨rd n h, n⟩
    · exact .inr h
theorem Rl.putF {m f : List Addr} {p : Addr} {u : HO} (r : Rl K H ⟨m, p :: f⟩ st) : Rl K (upd H p u) ⟨m, p :: f⟩ st := by
  have hp : p ∉ m := (r.ff p List.mem_cons_self).2
  refine ⟨r.len, r.nd, fun n o h => ?_, fun a h => ⟨?_, (r.ff a h).2⟩⟩
  · obtain ⟨a, h1, h2⟩ := r.at' n o h
    have hne : a ≠ p := fun z => hp (by rw [← z]; exact List.mem_of_getElem? h1)
    exact ⟨a, h1, h2.over Over.putF fun y z => by rw [upd_ne hne]; exact z⟩
  · by_cases z : a = p
    · subst z; rw [upd_same]; exact fun w => nomatch w
    · rw [upd_ne z]; exact (r.ff a h).1
theorem Ext.bar {m m' f : List Addr} {p : Addr} (e : Ext H ⟨m, p :: f⟩ H' ⟨m', p :: f⟩) : Ext H ⟨m, f⟩ H' ⟨m', f⟩ := ⟨e.keep, e.pre, e.new, rfl⟩
end
section
variable {X : Cx} {W : WX'} {a b e : Expr} {ta tb : Tm} {pos : Pos}
/-! ### a dict's display -/
inductive RepP (K : PySem.W.Frag) (H : Hp) (d : Dm) : List (V × V) → List (D × D) → Prop
  | nil : RepP K H d [] []
  | cons {v w : V} {x y : D} {vs : List (V × V)} {ds : List (D × D)} : Rep K H d v x → Rep K H d w y → RepP K H d vs ds → RepP K H d ((v, w) :: vs) ((x, y) :: ds)
def pNil : Nv → M (List (D × D)) := fun _ => ret []
def pCons (ta tb : Tm) (tr : Nv → M (List (D × D))) : Nv → M (List (D × D)) := fun nv => bnd (ta nv) fun x => bnd (tb nv) fun y => bnd (tr nv) fun xs => ret ((x, y) :: xs)
/-- a display's pairs: with their readings -/
structure SPs (X : Cx) (W : WX') (pos : Pos) (keys : List (Option Expr)) (values : List Expr) (t : Nv → M (List (D × D))) : Prop where
  has : ∃ trs, PPs X pos keys values trs ∧ ∀ σ H (Q : List (V × V) → Hp → Prop), (Rdg X.fx W σ H t fun ps _ H' d' => ∀ vps, RepP X.K H' d' vps ps → Q vps H') → tPairs trs σ H Q
theorem sp_nil : SPs X W pos [] [] pNil := ⟨[], pps_nil, fun σ H Q h => by
  obtain ⟨d, nv, st, r0, n0, q⟩ := h
  exact aft_ret q r0 [] .nil⟩
theorem sp_cons {ks : List (Option Expr)} {vs : List Expr} {tr : Nv → M (List (D × D))} (ha : PE X a (tI X.fx W ta)) (hb : PE X b (tI X.fx W tb)) (hr : SPs X W pos ks vs tr) : SPs X W pos (some a :: ks) (b :: vs) (pCons ta tb tr) := by
  obtain ⟨trs, h1, h2⟩ := hr.has
  refine ⟨_, pps_cons ha hb h1, fun σ H Q h => ?_⟩
  obtain ⟨d, nv, st, r0, n0, q⟩ := h
  refine (rdg_bnd r0 n0 q).mono fun x st1 H1 d1 ⟨r1, n1, e1, q1⟩ v hv => ?_
  refine (rdg_bnd r1 n1 q1).mono fun y st2 H2 d2 ⟨r2, n2, e2, q2⟩ w hw => ?_
  refine h2 _ _ _ ((rdg_bnd r2 n2 q2).mono fun ps st3 H3 d3 ⟨r3, n3, e3, q3⟩ vps hps => ?_)
  exact aft_ret q3 r3 _ (.cons ((hv.ext e2).ext e3) (hw.ext e3) hps)
def keysP : List (D × D) → Option (List (Key × D))
  | [] => some []
  | (x, y) :: r => match keyD x, keysP r with
    | some k, some ks => some ((k, y) :: ks)
    | _, _ => none
theorem keysP_of {K : PySem.W.Frag} {H : Hp} {d : Dm} : ∀ {vps : List (V × V)} {ps : List (D × D)} {ks : List (Key × D)}, RepP K H d vps ps → keysP ps = some ks → ∃ kvs : List (Key × V), vps = kvs.map (fun kv => (kV kv.1, kv.2)) ∧ RepKV K H d kvs ks ∧ kvs.length = ps.length
  | _, _, _, .nil, e => by cases e; exact ⟨[], rfl, .nil, rfl⟩
  | _, _, _, .cons (v := v) (w := w) (x := x) (y := y) (ds := r) h1 h2 hr, e => by
    unfold keysP at e
    cases e1 : keyD x with
    | none => rw [e1] at e; cases e
    | some k =>
      cases e2 : keysP r with
      | none => rw [e1, e2] at e; cases e
      | some ks =>
        rw [e1, e2] at e
        cases e
        obtain ⟨kvs, h3, h4, h5⟩ := keysP_of hr e2
        exact ⟨(k, w) :: kvs, by rw [h3, keyD_of h1 e1]; rfl, .cons h2 h4, by simp [h5]⟩
def cDict (tr : Nv → M (List (D × D))) : Tm := fun nv => bnd (tr nv) fun ps => match keysP ps with
  | some ks => if ps.length ≤ 15 then alloc (.dic (mergeD [] ks)) else bad
  | none => bad
/-- a new dict, ours -/
theorem own_dict {σ : L2.St} {H1 H' H'' : Hp} {d1 : Dm} {m' : List Addr} {st1 : Sto} {p : Addr} {vs : List (Key × V)} {ds : List (Key × D)} {Q : VK}
    (q : Aft X.fx (Wat W σ) H1 d1 (alloc (.dic ds) st1) fun x _ H' d' => ∀ v, Rep X.K H' d' v x → Q v H') (e : Ext H1 d1 H'' ⟨m', d1.f⟩) (hp : H1 p = none) (hf : p ∉ d1.f) (r : Rl X.K H'' ⟨m', p :: d1.f⟩ st1) (hv : H'' p = some (.dK vs)) (hr : RepKV X.K H'' ⟨m', p :: d1.f⟩ vs ds) : Q (.ref p) H'' := by
  refine q H'' ⟨m' ++ [p], d1.f⟩ ⟨e.keep, ?_, fun a ha hn => ?_, rfl⟩ (r.take ⟨vs, hv, hr⟩ hf) _ (.ref ?_)
  · obtain ⟨t, ht⟩ := e.pre
    have ht : m' = d1.m ++ t := ht
    exact ⟨t ++ [p], by rw [ht, List.append_assoc]⟩
  · rcases List.mem_append.mp ha with z | z
    · exact e.new a z hn
    · rw [List.mem_singleton.mp z]; exact hp
  · show (m' ++ [p])[st1.length]? = some p
    rw [← show m'.length = st1.length from r.len]; simp
theorem se_dict {keys : List (Option Expr)} {values : List Expr} {tr : Nv → M (List (D × D))} (h : SPs X W pos keys values tr) (hall : keys.all (·.isSome) = true) (hl : keys.length = values.length) (h0 : keys ≠ []) (h15 : keys.length ≤ 15) : PE X (.Dict keys values pos) (tI X.fx W (cDict tr)) := by
  obtain ⟨trs, h1, h2⟩ := h.has
  refine PE.imp (pe_disp h1 hall hl h0 h15) fun σ H Q h p hp => ?_
  obtain ⟨d, nv, st, r0, n0, q⟩ := h
  obtain ⟨m, f⟩ := d
  have s := same_upd (o := .dK []) hp
  have hpn : (upd H p (.dK [])) p ≠ none := by rw [upd_same]; exact fun z => nomatch z
  have hoff := r0.new hp
  refine h2 _ _ _ ⟨⟨m, p :: f⟩, nv, st, r0.bar s hp hpn, (n0.over (Over.bar hp)).over (Ext.same s).over, ?_⟩
  unfold cDict bnd at q
  cases e : tr nv st with
  | ok ps st1 =>
    rw [e] at q
    rintro H' ⟨m', f'⟩ e1 r1 vps hps
    have ef : f' = p :: f := e1.ff
    subst ef
    simp only at q
    cases e2 : keysP ps with
    | none => rw [e2] at q; exact False.elim q
    | some ks =>
      rw [e2] at q
      simp only at q
      split at q
      · rename_i hl15
        obtain ⟨kvs, rfl, h4, h5⟩ := keysP_of hps e2
        refine ⟨e1.keep p _ upd_same hoff.1, kvs, rfl, by rw [h5]; exact hl15, ?_⟩
        refine own_dict (d1 := ⟨m, f⟩) (m' := m') (ds := mergeD [] ks) (H' := H) q ?_ hp hoff.2 r1.putF upd_same (RepKV.merge (h4.over Over.putF) .nil)
        refine ⟨fun a o ha hn => ?_, e1.pre, fun a ha hn => ?_, rfl⟩
        · have hne : a ≠ p := ne_of_none ha hp
          rw [upd_ne hne]
          exact e1.keep a o (s a o ha) hn
        · have := e1.new a ha hn
          by_cases z : a = p
          · rw [z]; exact hp
          · rw [upd_ne z] at this; exact this
      · exact False.elim q
  | exc x st1 =>
    rw [e] at q
    rintro H' ⟨m', f'⟩ cls dx e1 r1 rx
    have ef : f' = p :: f := e1.ff
    subst ef
    refine q H' ⟨m', f⟩ cls dx ⟨fun a o ha hn => e1.keep a o (s a o ha) hn, e1.pre, fun a ha hn => ?_, rfl⟩ r1.drop ?_
    · have := e1.new a ha hn
      by_cases z : a = p
      · rw [z]; exact hp
      · rw [upd_ne z] at this; exact this
    · obtain ⟨C, h3, h4, h5⟩ := rx
      refine ⟨C, h3, h4, ?_⟩
      cases hx : x.fs with
      | none =>
        rw [hx] at h5
        cases dx with
        | none => trivial
        | some _ => exact h5
      | some fs =>
        rw [hx] at h5
        cases dx with
        | none => exact h5
        | some aa =>
          obtain ⟨ws, h6, h7, h8⟩ := h5
          exact ⟨ws, h6, ⟨h7.1, fun z => h7.2 (List.mem_cons_of_mem _ z)⟩, h8.over Over.drop⟩
  | bad =>
    rw [e] at q
    exact False.elim q
/-- d[k] -/
def dGetD (st : Sto) (x y : D) : Option D := match dicOf st x, keyD y with
  | some kvs, some k => valD kvs k
  | _, _ => none
theorem se_dget (hu : X.A.units + 1 < cLine) (ha : PE X a (tI X.fx W ta)) (hb : PE X b (tI X.fx W tb)) (hs : NoSl b) : PE X (.Subscript a b pos) (tI X.fx W (c2 dGetD ta tb)) := by
  refine PE.imp (pe_dget hu ha hb hs) fun σ H Q h => ?_
  obtain ⟨d, nv, st, r0, n0, q⟩ := h
  refine (rdg_bnd r0 n0 q).mono fun x st1 H1 d1 ⟨r1, n1, e1, q1⟩ v hv => ?_
  refine (rdg_bnd r1 n1 q1).mono fun y st2 H2 d2 ⟨r2, n2, e2, q2⟩ w hw => ?_
  obtain ⟨z, hz, q3⟩ := aft_lift q2
  unfold dGetD at hz
  cases e3 : dicOf st2 x with
  | none => rw [e3] at hz; cases hz
  | some kvs =>
    cases e4 : keyD y with
    | none => rw [e3, e4] at hz; cases hz
    | some k =>
      rw [e3, e4] at hz
      obtain ⟨n, aa, vs, rfl, rfl, h1, h2, h3, h4⟩ := dic_of r2 (hv.ext e2) e3
      have ew := keyD_of hw e4
      subst ew
      obtain ⟨u, h5, h6⟩ := (h4.val (k := k)).1 z hz
      exact ⟨aa, u, rfl, by rw [← h5]; exact DGet.k h3, aft_same q3 r2 (Same.refl H2) u h6⟩

/-! ### tests -/
def asB (x : D) : M Bool := match x with
  | .bl b => ret b
  | _ => bad
def tB' (t : Tm) : Nv → M Bool := fun nv => bnd (t nv) asB
def tAnd' (t u : Nv → M Bool) : Nv → M Bool := fun nv => bnd (t nv) fun b => if b = true then u nv else ret false
def tOr' (t u : Nv → M Bool) : Nv → M Bool := fun nv => bnd (t nv) fun b => if b = true then ret true else u nv
def tNot' (t : Nv → M Bool) : Nv → M Bool := fun nv => bnd (t nv) fun b => ret (!b)
variable {t u : Nv → M Bool} {rest : List Expr}
theorem tB_of {σ : L2.St} {H : Hp} {Q : Bool → Hp → Prop} (h : tIT X.fx W (tB' ta) σ H Q) : tB (tI X.fx W ta) σ H Q := by
  obtain ⟨d, nv, st, r0, n0, q⟩ := h
  refine (rdg_bnd r0 n0 q).mono fun x st1 H1 d1 ⟨r1, n1, e1, q1⟩ v hv => ?_
  cases x with
  | bl b => cases hv; exact ⟨b, rfl, aft_ret q1 r1⟩
  | _ => exact False.elim q1
theorem st_val (h : PE X e (tI X.fx W ta)) (he : ∀ whole, isTrue e X.env whole = (do let v ← whole; standAt e.pos; holding [v] (truthy v)) := by intro _; rfl) : PT X e (tIT X.fx W (tB' ta)) :=
  PT.imp (pt_val h he) fun _ _ _ h => tB_of h
theorem st_cmp {op : CmpOp} {r : R2} {f : Sto → D → D → Option D} (ho : OpR X (compareOp op) r) (hm : behindInMarks op b = false) (hf : OpS X.K r f) (ha : PE X a (tI X.fx W ta)) (hb : PE X b (tI X.fx W tb)) : PT X (.Compare a [op] [b] pos) (tIT X.fx W (tB' (c2 f ta tb))) := by
  refine PT.imp (pt_cmpR ho ha hb hm) fun σ H Q h => ?_
  have h := tB_of h
  exact tI_c2 hf h
theorem st_and1 (ha : PT X a (tIT X.fx W t)) : PW X (.BoolOp .And [a] pos) (tIT X.fx W t) := pw_and1 ha
theorem st_or1 (ha : PT X a (tIT X.fx W t)) : PW X (.BoolOp .Or [a] pos) (tIT X.fx W t) := pw_or1 ha
theorem st_and (ha : PT X a (tIT X.fx W t)) (hb : PW X (.BoolOp .And (b :: rest) pos) (tIT X.fx W u)) : PW X (.BoolOp .And (a :: b :: rest) pos) (tIT X.fx W (tAnd' t u)) :=
  PW.imp (pw_and ha hb) fun σ H Q h => by
    obtain ⟨d, nv, st, r0, n0, q⟩ := h
    refine (rdg_bnd r0 n0 q).mono fun x st1 H1 d1 ⟨r1, n1, e1, q1⟩ => ?_
    cases x with
    | true => exact iteT ⟨d1, nv, st1, r1, n1, q1⟩
    | false => exact iteF (aft_ret q1 r1)
theorem st_or (ha : PT X a (tIT X.fx W t)) (hb : PW X (.BoolOp .Or (b :: rest) pos) (tIT X.fx W u)) : PW X (.BoolOp .Or (a :: b :: rest) pos) (tIT X.fx W (tOr' t u)) :=
  PW.imp (pw_or ha hb) fun σ H Q h => by
    obtain ⟨d, nv, st, r0, n0, q⟩ := h
    refine (rdg_bnd r0 n0 q).mono fun x st1 H1 d1 ⟨r1, n1, e1, q1⟩ => ?_
    cases x with
    | true => exact iteT (aft_ret q1 r1)
    | false => exact iteF ⟨d1, nv, st1, r1, n1, q1⟩
theorem st_not (ha : PT X a (tIT X.fx W t)) : PT X (.UnaryOp .Not a pos) (tIT X.fx W (tNot' t)) :=
  PT.imp (pt_not ha) fun σ H Q h => by
    obtain ⟨d, nv, st, r0, n0, q⟩ := h
    exact (rdg_bnd r0 n0 q).mono fun x st1 H1 d1 ⟨r1, n1, e1, q1⟩ => aft_ret q1 r1
/-! ### .. as values -/
def vAnd (ta tb : Tm) : Tm := fun nv => bnd (ta nv) fun x => match x with
  | .bl true => tb nv
  | .bl false => ret (.bl false)
  | _ => bad
def vOr (ta tb : Tm) : Tm := fun nv => bnd (ta nv) fun x => match x with
  | .bl true => ret (.bl true)
  | .bl false => tb nv
  | _ => bad
def vNot (ta : Tm) : Tm := fun nv => bnd (ta nv) fun x => match x with
  | .bl b => ret (.bl (!b))
  | _ => bad
def cIf (t : Nv → M Bool) (ta tb : Tm) : Tm := fun nv => bnd (t nv) fun b => if b = true then ta nv else tb nv
theorem se_one {op} (h : PE X a (tI X.fx W ta)) : PE X (.BoolOp op [a] pos) (tI X.fx W ta) := pe_one h
theorem se_and (ha : PE X a (tI X.fx W ta)) (hb : PE X (.BoolOp .And (b :: rest) pos) (tI X.fx W tb)) : PE X (.BoolOp .And (a :: b :: rest) pos) (tI X.fx W (vAnd ta tb)) :=
  PE.imp (pe_and ha hb) fun σ H Q h => by
    obtain ⟨d, nv, st, r0, n0, q⟩ := h
    refine (rdg_bnd r0 n0 q).mono fun x st1 H1 d1 ⟨r1, n1, e1, q1⟩ v hv => ?_
    cases x with
    | bl b =>
      cases hv
      cases b with
      | true => exact ⟨true, rfl, iteT ⟨d1, nv, st1, r1, n1, q1⟩⟩
      | false => exact ⟨false, rfl, iteF (aft_ret q1 r1 _ (.bl false))⟩
    | _ => exact False.elim q1
theorem se_or (ha : PE X a (tI X.fx W ta)) (hb : PE X (.BoolOp .Or (b :: rest) pos) (tI X.fx W tb)) : PE X (.BoolOp .Or (a :: b :: rest) pos) (tI X.fx W (vOr ta tb)) :=
  PE.imp (pe_or ha hb) fun σ H Q h => by
    obtain ⟨d, nv, st, r0, n0, q⟩ := h
    refine (rdg_bnd r0 n0 q).mono fun x st1 H1 d1 ⟨r1, n1, e1, q1⟩ v hv => ?_
    cases x with
    | bl b =>
      cases hv
      cases b with
      | true => exact ⟨true, rfl, iteT (aft_ret q1 r1 _ (.bl true))⟩
      | false => exact ⟨false, rfl, iteF ⟨d1, nv, st1, r1, n1, q1⟩⟩
    | _ => exact False.elim q1
theorem se_not (ha : PE X a (tI X.fx W ta)) : PE X (.UnaryOp .Not a pos) (tI X.fx W (vNot ta)) :=
  PE.imp (pe_not ha) fun σ H Q h => by
    obtain ⟨d, nv, st, r0, n0, q⟩ := h
    refine (rdg_bnd r0 n0 q).mono fun x st1 H1 d1 ⟨r1, n1, e1, q1⟩ v hv => ?_
    cases x with
    | bl b => cases hv; exact ⟨b, rfl, aft_ret q1 r1 _ (.bl _)⟩
    | _ => exact False.elim q1
theorem se_if {c : Expr} (hc : PT X c (tIT X.fx W t)) (ha : PE X a (tI X.fx W ta)) (hb : PE X b (tI X.fx W tb)) : PE X (.IfExp c a b pos) (tI X.fx W (cIf t ta tb)) :=
  PE.imp (pe_ifExp hc ha hb) fun σ H Q h => by
    obtain ⟨d, nv, st, r0, n0, q⟩ := h
    refine (rdg_bnd r0 n0 q).mono fun x st1 H1 d1 ⟨r1, n1, e1, q1⟩ => ?_
    cases x with
    | true => exact iteT ⟨d1, nv, st1, r1, n1, q1⟩
    | false => exact iteF ⟨d1, nv, st1, r1, n1, q1⟩
end
end PV
end

section
/-! Statements, targets, loops over plain values. -/
namespace PV
open PySem PySem.Spec PyProof.Rows L2
/-- how a statement ends -/
inductive Fl where
  | nx (nv : Nv) | bk (nv : Nv) | ct (nv : Nv) | rt (x : D) | ex (x : Exn) (nv : Nv)
abbrev Ts := Nv → M Fl
/-- what a statement's result leaves to be shown -/
def FlS (F : Fx) (W : WX') (E : Ends) (H' : Hp) (d' : Dm) : Fl → Prop
  | .nx nv => ∀ σ', NvR F.K H' d' σ' nv → E.nx σ' H'
  | .bk nv => ∀ σ', NvR F.K H' d' σ' nv → E.bk σ' H'
  | .ct nv => ∀ σ', NvR F.K H' d' σ' nv → E.ct σ' H'
  | .rt x => ∀ v, Rep F.K H' d' v x → E.rt v H'
  | .ex x nv => ∀ σ' cls dx, NvR F.K H' d' σ' nv → RepX F.K F.mg H' d' x cls dx → W cls dx σ' H'
def AftS (F : Fx) (W : WX') (E : Ends) (H : Hp) (d : Dm) (o : Out Fl) : Prop :=
  match o with
  | .ok f st => ∀ H' d', Ext H d H' d' → Rl F.K H' d' st → FlS F W E H' d' f
  | .exc _ _ => False
  | .bad => False
def tIS (F : Fx) (W : WX') (t : Ts) : TS := fun E σ H => ∃ d nv st, Rl F.K H d st ∧ NvR F.K H d σ nv ∧ AftS F W E H d (t nv st)
/-- an expression within a statement -/
def sDo {α : Type} (e : Nv → M α) (k : α → Ts) : Ts := fun nv st => match e nv st with
  | .ok x st' => k x nv st'
  | .exc x st' => .ok (.ex x nv) st'
  | .bad => .bad
section
variable {X : Cx} {W : WX'} {E : Ends} {a b e : Expr} {ta tb te : Tm} {pos : Pos} {α : Type}
theorem AftS.ext {H H' : Hp} {d d' : Dm} {o : Out Fl} (e : Ext H d H' d') (h : AftS X.fx W E H d o) : AftS X.fx W E H' d' o := by
  cases o with
  | ok a st => exact fun H2 m2 e2 r => h H2 m2 (e.trans e2) r
  | exc x st => exact h
  | bad => exact h
/-- the expression, then the rest -/
theorem tIS_do {σ : L2.St} {H : Hp} {d : Dm} {nv : Nv} {st : Sto} {t : Nv → M α} {k : α → Ts} (r : Rl X.K H d st) (n : NvR X.K H d σ nv) (h : AftS X.fx W E H d (sDo t k nv st)) :
    Rdg X.fx W σ H t fun x st1 H1 d1 => Rl X.K H1 d1 st1 ∧ NvR X.K H1 d1 σ nv ∧ Ext H d H1 d1 ∧ AftS X.fx W E H1 d1 (k x nv st1) := by
  refine ⟨d, nv, st, r, n, ?_⟩
  unfold sDo at h
  cases e : t nv st with
  | ok a st1 =>
    rw [e] at h
    exact fun H1 m1 e1 r1 => ⟨r1, n.ext e1, e1, AftS.ext e1 h⟩
  | exc x st1 =>
    rw [e] at h
    exact fun H1 d1 cls dx e1 r1 rx => h H1 d1 e1 r1 σ cls dx (n.ext e1) rx
  | bad =>
    rw [e] at h
    exact h
theorem aftS_ok {H : Hp} {d : Dm} {f : Fl} {st : Sto} (h : AftS X.fx W E H d (.ok f st)) (r : Rl X.K H d st) : FlS X.fx W E H d f := h H d (Ext.refl H d) r
theorem aftS_same {H H' : Hp} {d : Dm} {f : Fl} {st : Sto} (h : AftS X.fx W E H d (.ok f st)) (r : Rl X.K H d st) (s : Same H H') : FlS X.fx W E H' d f := h H' d (Ext.same s) (r.same s)

/-! ### blocks, return, expressions alone, if, pass, break, continue -/
def sNext : Ts := fun nv => ret (.nx nv)
def sSeq (t u : Ts) : Ts := fun nv => bnd (t nv) fun f => match f with
  | .nx nv' => u nv'
  | f => ret f
def sRet (e : Tm) : Ts := sDo e fun x _ => ret (.rt x)
def sRetN : Ts := fun _ => ret (.rt .non)
def sDrop (e : Tm) : Ts := sDo e fun _ nv => ret (.nx nv)
def sIf (c : Nv → M Bool) (t u : Ts) : Ts := sDo c fun b nv => if b = true then t nv else u nv
def sBrk : Ts := fun nv => ret (.bk nv)
def sCnt : Ts := fun nv => ret (.ct nv)
variable {t u : Ts} {tc : Nv → M Bool} {s1 s2 : List Stmt} {s : Stmt}
theorem ss_nil : PSs X [] (tIS X.fx W sNext) := PSs.imp pss_nil fun E σ H h => by
  obtain ⟨d, nv, st, r, n, q⟩ := h
  exact aftS_ok q r σ n
theorem ss_one (h : PS X s (tIS X.fx W t)) : PSs X [s] (tIS X.fx W t) := pss_one h
theorem ss_cons (h1 : PS X s (tIS X.fx W t)) (h2 : PSs X s2 (tIS X.fx W u)) : PSs X (s :: s2) (tIS X.fx W (sSeq t u)) := PSs.imp (pss_cons h1 h2) fun E σ H h => by
  obtain ⟨d, nv, st, r, n, q⟩ := h
  refine ⟨d, nv, st, r, n, ?_⟩
  unfold sSeq bnd at q
  cases e : t nv st with
  | ok f st1 =>
    rw [e] at q
    intro H1 d1 e1 r1
    cases f with
    | nx nv1 => exact fun σ1 n1 => ⟨d1, nv1, st1, r1, n1, AftS.ext e1 q⟩
    | bk nv1 => exact q H1 d1 e1 r1
    | ct nv1 => exact q H1 d1 e1 r1
    | rt x => exact q H1 d1 e1 r1
    | ex x nv1 => exact q H1 d1 e1 r1
  | exc x st1 => rw [e] at q; exact q
  | bad => rw [e] at q; exact q
theorem ss_pass : PS X (.Pass pos) (tIS X.fx W sNext) := PS.imp ps_pass fun E σ H h => by
  obtain ⟨d, nv, st, r, n, q⟩ := h
  exact aftS_ok q r σ n
theorem ss_brk : PS X (.Break pos) (tIS X.fx W sBrk) := PS.imp ps_break fun E σ H h => by
  obtain ⟨d, nv, st, r, n, q⟩ := h
  exact aftS_ok q r σ n
theorem ss_cnt : PS X (.Continue pos) (tIS X.fx W sCnt) := PS.imp ps_continue fun E σ H h => by
  obtain ⟨d, nv, st, r, n, q⟩ := h
  exact aftS_ok q r σ n
theorem ss_ret (he : PE X e (tI X.fx W te)) : PS X (.Return (some e) pos) (tIS X.fx W (sRet te)) := PS.imp (ps_ret he) fun E σ H h => by
  obtain ⟨d, nv, st, r, n, q⟩ := h
  exact (tIS_do r n q).mono fun x st1 H1 d1 ⟨r1, n1, e1, q1⟩ v hv => aftS_ok q1 r1 v hv
theorem ss_retN : PS X (.Return none pos) (tIS X.fx W sRetN) := PS.imp ps_retN fun E σ H h => by
  obtain ⟨d, nv, st, r, n, q⟩ := h
  exact aftS_ok q r .non .non
theorem ss_drop (he : PE X e (tI X.fx W te)) (hs : swapsWith e none pos.line X.env = pure false := by rfl) : PS X (.Expr e pos) (tIS X.fx W (sDrop te)) := PS.imp (ps_expr he hs) fun E σ H h => by
  obtain ⟨d, nv, st, r, n, q⟩ := h
  exact (tIS_do r n q).mono fun x st1 H1 d1 ⟨r1, n1, e1, q1⟩ v hv => aftS_ok q1 r1 σ n1
theorem ss_if {c : Expr} (hc : PT X c (tIT X.fx W tc)) (ha : PSs X s1 (tIS X.fx W t)) (hb : PSs X s2 (tIS X.fx W u)) : PS X (.If c s1 s2 pos) (tIS X.fx W (sIf tc t u)) := PS.imp (ps_if hc ha hb) fun E σ H h => by
  obtain ⟨d, nv, st, r, n, q⟩ := h
  refine (tIS_do r n q).mono fun x st1 H1 d1 ⟨r1, n1, e1, q1⟩ => ?_
  cases x with
  | true => exact iteT ⟨d1, nv, st1, r1, n1, q1⟩
  | false => exact iteF ⟨d1, nv, st1, r1, n1, q1⟩

/-! ### targets -/
abbrev Tg := D → Nv → M Nv
abbrev Tgs := List D → Nv → M Nv
/-- the slots outside S are as they were -/
def Chg (S : Nat → Prop) (σ σ' : L2.St) : Prop := σ'.length = σ.length ∧ ∀ j, ¬ S j → σ'[j]? = σ[j]?
theorem Chg.refl {S : Nat → Prop} (σ : L2.St) : Chg S σ σ := ⟨rfl, fun _ _ => rfl⟩
theorem Chg.trans {S : Nat → Prop} {σ σ1 σ2 : L2.St} (a : Chg S σ σ1) (b : Chg S σ1 σ2) : Chg S σ σ2 := ⟨b.1.trans a.1, fun j h => (b.2 j h).trans (a.2 j h)⟩
theorem Chg.set {S : Nat → Prop} {σ : L2.St} {i : Nat} {v : Option V} (h : S i) : Chg S σ (σ.set i v) := ⟨by simp, fun j hj => List.getElem?_set_ne (fun z => hj (by rw [← z]; exact h))⟩
def AftG (F : Fx) (S : Nat → Prop) (σ : L2.St) (H : Hp) (d : Dm) (o : Out Nv) (Q : L2.St → Hp → Prop) : Prop :=
  match o with
  | .ok nv st => ∀ H' d' σ', Ext H d H' d' → Rl F.K H' d' st → NvR F.K H' d' σ' nv → Chg S σ σ' → Q σ' H'
  | .exc _ _ => False
  | .bad => False
def tIG (F : Fx) (S : Nat → Prop) (g : Tg) : TG := fun v σ H Q => ∃ d nv st x, Rl F.K H d st ∧ NvR F.K H d σ nv ∧ Rep F.K H d v x ∧ AftG F S σ H d (g x nv st) Q
def tIGs (F : Fx) (S : Nat → Prop) (g : Tgs) : TGs := fun vs σ H Q => ∃ d nv st xs, Rl F.K H d st ∧ NvR F.K H d σ nv ∧ RepL F.K H d vs xs ∧ AftG F S σ H d (g xs nv st) Q
variable {S : Nat → Prop}
theorem PG.imp {e : Expr} {t t' : TG} (h : PG X e t) (i : ∀ v σ H Q, t' v σ H Q → t v σ H Q) : PG X e t' := ⟨fun pins s σ H v u Q I r q => h.run pins s σ H v u Q I r (i v σ H Q q)⟩
theorem PGs.imp {e : List Expr} {t t' : TGs} (h : PGs X e t) (i : ∀ v σ H Q, t' v σ H Q → t v σ H Q) : PGs X e t' := ⟨fun pins s σ H v u Q I r q => h.run pins s σ H v u Q I r (i v σ H Q q)⟩
theorem PG.or {e : Expr} {t t' : TG} (h : PG X e t) (h' : PG X e t') : PG X e (fun v σ H Q => t v σ H Q ∨ t' v σ H Q) := ⟨fun pins s σ H v u Q I r q => q.elim (fun q => h.run pins s σ H v u Q I r q) fun q => h'.run pins s σ H v u Q I r q⟩
theorem AftG.ext {σ σ1 : L2.St} {H H' : Hp} {d d' : Dm} {o : Out Nv} {Q : L2.St → Hp → Prop} (e : Ext H d H' d') (c : Chg S σ σ1) (h : AftG X.fx S σ H d o Q) : AftG X.fx S σ1 H' d' o Q := by
  cases o with
  | ok a st => exact fun H2 m2 σ' e2 r n c2 => h H2 m2 σ' (e.trans e2) r n (c.trans c2)
  | exc x st => exact h
  | bad => exact h
def gNm (i : Nat) : Tg := fun x nv => ret (nv.set i (some x))
def gNil : Tgs := fun xs nv => match xs with
  | [] => ret nv
  | _ => bad
def gCons (g : Tg) (gs : Tgs) : Tgs := fun xs nv => match xs with
  | x :: r => bnd (g x nv) fun nv' => gs r nv'
  | [] => bad
def gSeq (n : Nat) (gs : Tgs) : Tg := fun x nv => fun st => match items st x with
  | some xs => if xs.length = n then gs xs nv st else .bad
  | none => .bad
/-- an expression within a target: it raises nothing -/
def gDo {α : Type} (e : Nv → M α) (k : α → Nv → M Nv) : Nv → M Nv := fun nv st => match e nv st with
  | .ok x st' => k x nv st'
  | _ => .bad
def gSubL (to ti : Tm) : Tg := fun x => gDo to fun o => gDo ti fun i nv => fun st => match o, i with
  | .ref n, .int k => match st[n]? with
    | some (.lst ds) => match ixN ds.length k with
      | some j => .ok nv (st.set n (.lst (ds.set j x)))
      | none => .bad
    | _ => .bad
  | _, _ => .bad
theorem sg_name (i : Nat) {x : Str} (hN : X.N.Nodup) (hi : X.N[i]? = some x := by rfl) (hx : Loc X.env.scope x := by first | exact .inl rfl | exact .inr rfl) (hf : X.fn x = true ∨ X.env.scope.names.lookup x = some .local := by first | exact .inl rfl | exact .inr rfl | assumption) (hS : S i := by first | trivial | simp | decide) : PG X (.Name x pos) (tIG X.fx S (gNm i)) :=
  PG.imp (pg_name hN hi hx hf) fun v σ H Q h => by
    obtain ⟨d, nv, st, x, r, n, hx, q⟩ := h
    exact q H d _ (Ext.refl H d) r (n.set hx) (Chg.set hS)
theorem sg_nil : PGs X [] (tIGs X.fx S gNil) := PGs.imp pgs_nil fun vs σ H Q h => by
  obtain ⟨d, nv, st, xs, r, n, hx, q⟩ := h
  cases hx with
  | nil => exact ⟨rfl, q H d σ (Ext.refl H d) r n (Chg.refl σ)⟩
  | cons _ _ => exact False.elim q
theorem sg_cons {es : List Expr} {g : Tg} {gs : Tgs} (h1 : PG X e (tIG X.fx S g)) (h2 : PGs X es (tIGs X.fx S gs)) (hs : (assignEach (e :: es) X.env).map (·.2) = assign e X.env :: (assignEach es X.env).map (·.2) := by rfl) : PGs X (e :: es) (tIGs X.fx S (gCons g gs)) :=
  PGs.imp (pgs_cons h1 h2 hs) fun vs σ H Q h => by
    obtain ⟨d, nv, st, xs, r, n, hx, q⟩ := h
    cases hx with
    | nil => exact False.elim q
    | @cons v vs x xs hx hxs =>
      refine ⟨v, vs, rfl, d, nv, st, x, r, n, hx, ?_⟩
      have q : AftG X.fx S σ H d (bnd (g x nv) (fun nv' => gs xs nv') st) Q := q
      unfold bnd at q
      cases e : g x nv st with
      | ok nv1 st1 =>
        rw [e] at q
        exact fun H1 d1 σ1 e1 r1 n1 c1 => ⟨d1, nv1, st1, xs, r1, n1, hxs.ext e1, AftG.ext e1 c1 q⟩
      | exc _ _ => rw [e] at q; exact q
      | bad => rw [e] at q; exact q
theorem sg_seq {es : List Expr} {k n : Nat} {gs : Tgs} (hc : X.calm = true) (h : PGs X es (tIGs X.fx S gs)) (hn : (assignEach es X.env).length = n := by rfl) (hst : (assignEach es X.env).findIdx? (·.1) = none := by rfl) : PG X (.Tuple es k pos) (tIG X.fx S (gSeq n gs)) :=
  PG.imp (PV.PG.or (pg_tup hc h hn hst) (pg_lst hc h hn hst)) fun v σ H Q h => by
    obtain ⟨d, nv, st, x, r, n0, hx, q⟩ := h
    unfold gSeq at q
    cases e : items st x with
    | none => rw [e] at q; exact False.elim q
    | some xs =>
      rw [e] at q
      simp only at q
      split at q
      · rename_i hl
        obtain ⟨a, vs, rfl, h1, h2⟩ := items_of r hx e
        rcases h1 with h1 | h1
        · exact .inr ⟨a, vs, rfl, h1, by rw [h2.length]; exact hl, d, nv, st, xs, r, n0, h2, q⟩
        · exact .inl ⟨a, vs, rfl, h1, by rw [h2.length]; exact hl, d, nv, st, xs, r, n0, h2, q⟩
      · exact False.elim q
theorem gdo {σ : L2.St} {H : Hp} {d : Dm} {nv : Nv} {st : Sto} {t : Nv → M α} {k : α → Nv → M Nv} {Q : L2.St → Hp → Prop} (r : Rl X.K H d st) (n : NvR X.K H d σ nv) (h : AftG X.fx S σ H d (gDo t k nv st) Q) :
    Rdg X.fx W σ H t fun x st1 H1 d1 => Rl X.K H1 d1 st1 ∧ NvR X.K H1 d1 σ nv ∧ Ext H d H1 d1 ∧ AftG X.fx S σ H1 d1 (k x nv st1) Q := by
  refine ⟨d, nv, st, r, n, ?_⟩
  unfold gDo at h
  cases e : t nv st with
  | ok a st1 =>
    rw [e] at h
    exact fun H1 m1 e1 r1 => ⟨r1, n.ext e1, e1, AftG.ext e1 (Chg.refl σ) h⟩
  | exc x st1 =>
    rw [e] at h
    exact False.elim h
  | bad =>
    rw [e] at h
    exact h
theorem set_own {H : Hp} {d : Dm} {st : Sto} {n : Nat} {p : Addr} {vs : List V} {ds : List D} (r : Rl X.K H d st) (hp : d.m[n]? = some p) (hr : RepL X.K H d vs ds) : Ext H d (upd H p (.lst vs)) d ∧ Rl X.K (upd H p (.lst vs)) d (st.set n (.lst ds)) := by
  have hm : p ∈ d.m := List.mem_of_getElem? hp
  exact ⟨ext_put hm, r.put hp ⟨vs, upd_same, hr.ext (ext_put hm)⟩⟩
theorem sg_subL (ha : PE X a (tI X.fx W ta)) (hb : PE X b (tI X.fx W tb)) {xx} (hpg : PG X (.Subscript a b xx) (L2.gSub (tI X.fx W ta) (tI X.fx W tb) rSetL)) : PG X (.Subscript a b xx) (tIG X.fx S (gSubL ta tb)) :=
  PG.imp hpg fun v σ H Q h => by
    obtain ⟨d, nv, st, x, r, n, hx, q⟩ := h
    refine (gdo (W := W) r n q).mono fun o st1 H1 d1 ⟨r1, n1, e1, q1⟩ vo ho => ?_
    refine (gdo (W := W) r1 n1 q1).mono fun i st2 H2 d2 ⟨r2, n2, e2, q2⟩ vi hi => ?_
    cases o with
    | ref k =>
      cases i with
      | int j =>
        simp only at q2
        cases e3 : st2[k]? with
        | none => rw [e3] at q2; exact False.elim q2
        | some so =>
          rw [e3] at q2
          cases so with
          | dic _ => exact False.elim q2
          | lst ds =>
            simp only at q2
            cases e4 : ixN ds.length j with
            | none => rw [e4] at q2; exact False.elim q2
            | some jj =>
              rw [e4] at q2
              cases hi
              have ho2 := ho.ext e2
              cases ho2 with
              | @ref p _ hp =>
                obtain ⟨p', hp', vs, h5, h6⟩ := r2.at' k _ e3
                rw [hp] at hp'; cases hp'
                obtain ⟨e5, r5⟩ := set_own r2 hp (RepL.set ((hx.ext e1).ext e2) jj h6)
                exact ⟨p, vs, j, jj, rfl, rfl, h5, by rw [h6.length]; exact e4, q2 _ d2 σ e5 r5 (n2.ext e5) (Chg.refl σ)⟩
      | _ => exact False.elim q2
    | _ => exact False.elim q2

/-! ### assignments -/
def sAsg (e : Tm) (g : Tg) : Ts := sDo e fun x nv => bnd (g x nv) fun nv' => ret (.nx nv')
theorem asg_of {σ : L2.St} {H : Hp} {te : Tm} {g : Tg} {E : Ends} (h : tIS X.fx W (sAsg te g) E σ H) : tAsg (tI X.fx W te) (tIG X.fx S g) E σ H := by
  obtain ⟨d, nv, st, r, n, q⟩ := h
  refine (tIS_do r n q).mono fun x st1 H1 d1 ⟨r1, n1, e1, q1⟩ v hv => ?_
  refine ⟨d1, nv, st1, x, r1, n1, hv, ?_⟩
  have q1 : AftS X.fx W E H1 d1 (bnd (g x nv) (fun nv' => ret (.nx nv')) st1) := q1
  unfold bnd at q1
  cases e : g x nv st1 with
  | ok nv1 st2 =>
    rw [e] at q1
    exact fun H2 d2 σ2 e2 r2 n2 _ => q1 H2 d2 e2 r2 σ2 n2
  | exc _ _ => rw [e] at q1; exact q1
  | bad => rw [e] at q1; exact q1
theorem ss_asg {tg : Expr} {g : Tg} (he : PE X e (tI X.fx W te)) (hg : PG X tg (tIG X.fx S g)) (hs : swapsWithSole [tg] e pos.line X.env = pure false := by rfl) (hw : swappedStores [tg] e X.env = pure none := by rfl) (h1 : (assignEach [tg] X.env).map (·.2) = [assign tg X.env] := by rfl) : PS X (.Assign [tg] e pos) (tIS X.fx W (sAsg te g)) :=
  PS.imp (ps_asg he hg hs hw h1) fun E σ H h => asg_of h
theorem ss_set (i : Nat) {x : Str} {pos' : Pos} (hN : X.N.Nodup) (he : PE X e (tI X.fx W te)) (hi : X.N[i]? = some x := by rfl) (hx : Loc X.env.scope x := by first | exact .inl rfl | exact .inr rfl) (hs : swapsWith e (some (.Name x pos')) pos.line X.env = pure false := by rfl) (hf : X.fn x = true ∨ X.env.scope.names.lookup x = some .local := by first | exact .inl rfl | exact .inr rfl | assumption) :
    PS X (.Assign [.Name x pos'] e pos) (tIS X.fx W (sAsg te (gNm i))) := by
  refine PS.imp (ps_set hN hi hx he hs hf) fun E σ H h => ?_
  obtain ⟨d, nv, st, r, n, q⟩ := h
  refine (tIS_do r n q).mono fun x st1 H1 d1 ⟨r1, n1, e1, q1⟩ v hv => ?_
  exact aftS_ok q1 r1 _ (n1.set hv)
def sPar (i j : Nat) (ta : Nv → M (List D)) : Ts := sDo ta fun xs nv => match xs with
  | [x, y] => ret (.nx ((nv.set i (some x)).set j (some y)))
  | _ => bad
theorem par_of {i j : Nat} {tr : Nv → M (List D)} {σ : L2.St} {H : Hp} {E : Ends} (h : tIS X.fx W (sPar i j tr) E σ H) : tPar i j (tIA X.fx W tr) E σ H := by
  obtain ⟨d, nv, st, r, n, q⟩ := h
  refine (tIS_do r n q).mono fun xs st1 H1 d1 ⟨r1, n1, e1, q1⟩ vs hv => ?_
  cases hv with
  | nil => exact False.elim q1
  | cons hx hxs =>
    cases hxs with
    | nil => exact False.elim q1
    | cons hy hys =>
      cases hys with
      | nil => exact ⟨_, _, rfl, aftS_ok q1 r1 _ ((n1.set hx).set hy)⟩
      | cons _ _ => exact False.elim q1
def sPar3 (i j l : Nat) (ta : Nv → M (List D)) : Ts := sDo ta fun xs nv => match xs with
  | [x, y, z] => ret (.nx (((nv.set i (some x)).set j (some y)).set l (some z)))
  | _ => bad
theorem par3_of {i j l : Nat} {tr : Nv → M (List D)} {σ : L2.St} {H : Hp} {E : Ends} (h : tIS X.fx W (sPar3 i j l tr) E σ H) : tPar3 i j l (tIA X.fx W tr) E σ H := by
  obtain ⟨d, nv, st, r, n, q⟩ := h
  refine (tIS_do r n q).mono fun xs st1 H1 d1 ⟨r1, n1, e1, q1⟩ vs hv => ?_
  cases hv with
  | nil => exact False.elim q1
  | cons hx hxs =>
    cases hxs with
    | nil => exact False.elim q1
    | cons hy hys =>
      cases hys with
      | nil => exact False.elim q1
      | cons hz hzs =>
        cases hzs with
        | nil => exact ⟨_, _, _, rfl, aftS_ok q1 r1 _ (((n1.set hx).set hy).set hz)⟩
        | cons _ _ => exact False.elim q1

/-- one argument -/
theorem tA_one {σ : L2.St} {H : Hp} {t : Tm} {k : D → Sto → Hp → Dm → Prop} {Q : List V → Hp → Prop} (h : Rdg X.fx W σ H t k) (i : ∀ x st H' d', k x st H' d' → ∀ v, Rep X.K H' d' v x → Q [v] H') : tIA X.fx W (aCons t aNil) σ H Q := by
  obtain ⟨d, nv, st, r, n, q⟩ := h
  refine ⟨d, nv, st, r, n, ?_⟩
  unfold aCons aNil bnd
  cases e : t nv st with
  | ok x st1 =>
    rw [e] at q
    intro H1 d1 e1 r1 vs hv
    cases hv with
    | cons h1 h2 =>
      cases h2
      exact i x st1 H1 d1 (q H1 d1 e1 r1) _ h1
  | exc x st1 => rw [e] at q; exact q
  | bad => rw [e] at q; exact q
/-! ### d[k] = v, xs.append(e) -/
def sDput (tv td tk : Tm) : Ts := sDo tv fun x => sDo td fun o => sDo tk fun k nv => fun st => match o, keyD k with
  | .ref n, some key => match st[n]? with
    | some (.dic kvs) => if kvs.length < sizeLine then .ok (.nx nv) (st.set n (.dic (putD kvs key x))) else .bad
    | _ => .bad
  | _, _ => .bad
theorem ss_dput {value o i : Expr} {pos' : Pos} {tv td tk : Tm} (hu : X.A.units + 1 < cLine) (ho : PE X o (tI X.fx W td)) (hi : PE X i (tI X.fx W tk)) (hv : PE X value (tI X.fx W tv)) (hs : swapsWith value (some (.Subscript o i pos')) pos.line X.env = pure false) :
    PS X (.Assign [.Subscript o i pos'] value pos) (tIS X.fx W (sDput tv td tk)) := by
  refine PS.imp (ps_dput hu ho hi hv hs) fun E σ H h => ?_
  obtain ⟨d, nv, st, r, n, q⟩ := h
  refine (tIS_do r n q).mono fun x st1 H1 d1 ⟨r1, n1, e1, q1⟩ v hv => ?_
  refine (tIS_do r1 n1 q1).mono fun o st2 H2 d2 ⟨r2, n2, e2, q2⟩ w hw => ?_
  refine (tIS_do r2 n2 q2).mono fun k st3 H3 d3 ⟨r3, n3, e3, q3⟩ y hy => ?_
  cases o with
  | ref m =>
    cases e4 : keyD k with
    | none => rw [e4] at q3; exact False.elim q3
    | some key =>
      rw [e4] at q3
      simp only at q3
      cases e5 : st3[m]? with
      | none => rw [e5] at q3; exact False.elim q3
      | some so =>
        rw [e5] at q3
        cases so with
        | lst _ => exact False.elim q3
        | dic kvs =>
          simp only at q3
          split at q3
          · rename_i hl
            have hw3 := hw.ext e3
            cases hw3 with
            | @ref p _ hp =>
              obtain ⟨p', hp', vs, h5, h6⟩ := r3.at' m _ e5
              rw [hp] at hp'; cases hp'
              have hm : p ∈ d3.m := List.mem_of_getElem? hp
              have ek := keyD_of hy e4
              subst ek
              refine ⟨p, _, rfl, DPut.k h5 (by rw [h6.length]; exact hl), ?_⟩
              have e6 : Ext H3 d3 (upd H3 p (.dK (putK vs key v))) d3 := ext_put hm
              exact q3 _ d3 e6 (r3.put hp ⟨_, upd_same, (h6.put ((hv.ext e2).ext e3)).over e6.over⟩) σ (n3.ext e6)
          · exact False.elim q3
  | _ => exact False.elim q3
def sApp (to te : Tm) : Ts := sDo to fun o nv => fun st => match o with
  | .ref n => match st[n]? with
    | some (.lst _) => sDo te (fun x nv => fun st => match st[n]? with
      | some (.lst ds) => if ds.length < sizeLine then .ok (.nx nv) (st.set n (.lst (ds ++ [x]))) else .bad
      | _ => .bad) nv st
    | _ => .bad
  | _ => .bad
theorem app_of {σ : L2.St} {H : Hp} {to te : Tm} {E : Ends} (h : tIS X.fx W (sApp to te) E σ H) : tDrop (tBM X.K "list" rAppend (tI X.fx W to) (tIA X.fx W (aCons te aNil))) E σ H := by
  obtain ⟨d, nv, st, r, n, q⟩ := h
  refine (tIS_do r n q).mono fun o st1 H1 d1 ⟨r1, n1, e1, q1⟩ w hw => ?_
  cases o with
  | ref m =>
    cases e5 : st1[m]? with
    | none =>
      simp only [e5] at q1
      exact False.elim q1
    | some so =>
      cases so with
      | dic _ =>
        simp only [e5] at q1
        exact False.elim q1
      | lst ds =>
        simp only [e5] at q1
        cases hw with
        | @ref p _ hp =>
          obtain ⟨p', hp', vs, h5, h6⟩ := r1.at' m _ e5
          rw [hp] at hp'; cases hp'
          refine ⟨.inl ⟨rfl, vs, SqL.of h5⟩, ?_⟩
          refine tA_one (tIS_do r1 n1 q1) fun x st2 H2 d2 ⟨r2, n2, e2, q2⟩ y hy => ?_
          cases e6 : st2[m]? with
          | none =>
            rw [e6] at q2
            exact False.elim q2
          | some so2 =>
            rw [e6] at q2
            cases so2 with
            | dic _ => exact False.elim q2
            | lst es =>
              simp only at q2
              split at q2
              · rename_i hl
                have hp2 := e2.get hp
                obtain ⟨p', hp', ws, h7, h8⟩ := r2.at' m _ e6
                rw [hp2] at hp'; cases hp'
                obtain ⟨e7, r7⟩ := set_own r2 hp2 (h8.append (.cons hy .nil))
                exact ⟨p, ws, y, rfl, rfl, h7, by rw [h8.length]; exact hl, q2 _ d2 e7 r7 σ (n2.ext e7)⟩
              · exact False.elim q2
  | _ => exact False.elim q1
end
end PV
end

section
/-! What is walked; for, while, comprehensions. -/
namespace PV
open PySem PySem.Spec PyProof.Rows L2
/-- an iterator that hands out what stands for xs, one by one -/
structure Src (K : PySem.W.Frag) (J : It) (H0 : Hp) (d0 : Dm) (xs : List D) : Prop where
  has : ∃ (G : Hp → Prop) (Y : Nat → Hp → V → Hp → Prop), Walk J xs.length G Y ∧ (∀ H d, Ext H0 d0 H d → G H) ∧
    ∀ i H x' H' d st, i < xs.length → Over K H0 d0 H d → Rl K H d st → Y i H x' H' → ∃ y, xs[i]? = some y ∧ Rep K H' d x' y ∧ Same H H'
def tII (F : Fx) (W : WX') (t : Nv → M (List D)) : TI := fun σ H R => Rdg F W σ H t fun xs _ H' d' => ∀ J, Src F.K J H' d' xs → R J H'
section
variable {X : Cx} {W : WX'} {tg e a b : Expr} {ta tb : Tm} {pos : Pos}
theorem PI.imp {t t' : TI} (h : PI X tg e t) (i : ∀ σ H Q, t' σ H Q → t σ H Q) : PI X tg e t' := ⟨fun pins s σ H Q I q => h.run pins s σ H Q I (i σ H Q q)⟩
section
variable {K : PySem.W.Frag} {H : Hp} {d : Dm} {vs ws : List V} {xs ys : List D} {p q : Addr}
theorem src_list (hs : ∀ H' d', Ext H d H' d' → SqL K H' p vs) (hr : RepL K H d vs xs) : Src K (Itl K p) H d xs := by
  refine ⟨_, _, by rw [← hr.length]; exact walk_list (K := K) (a := p) (xs := vs), fun H' d' e => hs H' d' e, fun i H1 x' H' d1 st hi e r y => ?_⟩
  obtain ⟨rfl, hy⟩ := y
  obtain ⟨z, h1, h2⟩ := hr.getV hy
  exact ⟨z, h1, h2.over e, Same.refl _⟩
theorem src_tup (hs : ∀ H' d', Ext H d H' d' → SqT K H' p vs) (hr : RepL K H d vs xs) : Src K (Itt K p) H d xs := by
  refine ⟨_, _, by rw [← hr.length]; exact walk_tup (K := K) (a := p) (xs := vs), fun H' d' e => hs H' d' e, fun i H1 x' H' d1 st hi e r y => ?_⟩
  obtain ⟨rfl, hy⟩ := y
  obtain ⟨z, h1, h2⟩ := hr.getV hy
  exact ⟨z, h1, h2.over e, Same.refl _⟩
theorem src_rev (hs : ∀ H' d', Ext H d H' d' → SqL K H' p vs) (hr : RepL K H d vs xs) : Src K (Itv K p vs.length) H d xs.reverse := by
  refine ⟨_, _, by rw [List.length_reverse, ← hr.length]; exact walk_rev (K := K) (a := p) (xs := vs), fun H' d' e => hs H' d' e, fun i H1 x' H' d1 st hi e r y => ?_⟩
  obtain ⟨rfl, hy⟩ := y
  obtain ⟨z, h1, h2⟩ := hr.getV hy
  rw [List.length_reverse] at hi
  exact ⟨z, by rw [List.getElem?_reverse hi, ← hr.length]; exact h1, h2.over e, Same.refl _⟩
def upTo (lo : Int) (n : Nat) : List D := (List.range n).map fun (i : Nat) => D.int (lo + (i : Int))
theorem src_range {lo : Int} {n : Nat} : Src K (Itr lo n) H d (upTo lo n) := by
  refine ⟨_, _, by rw [show (upTo lo n).length = n by simp [upTo]]; exact walk_range (lo := lo) (n := n), fun _ _ _ => True.intro, fun i H1 x' H' d1 st hi e r y => ?_⟩
  obtain ⟨rfl, rfl⟩ := y
  have hi : i < n := by simpa [upTo] using hi
  exact ⟨.int (lo + i), by simp [upTo, hi], .int _, Same.refl _⟩
def signs (z : Str) : List D := z.cps.toList.map fun c => .str ⟨#[c]⟩
theorem src_str {z : Str} : Src K (Its z) H d (signs z) := by
  refine ⟨_, _, by rw [show (signs z).length = z.cps.size by simp [signs]]; exact walk_str (z := z), fun _ _ _ => True.intro, fun i H1 x' H' d1 st hi e r y => ?_⟩
  obtain ⟨rfl, c, h1, rfl⟩ := y
  refine ⟨.str ⟨#[c]⟩, ?_, .str _, Same.refl _⟩
  unfold signs
  rw [List.getElem?_map, Array.getElem?_toList, h1]; rfl
def zipD (xs ys : List D) : List D := (xs.zip ys).map fun p => .tup [p.1, p.2]
theorem src_zip (hs : ∀ H' d', Ext H d H' d' → SqL K H' p vs) (ht : ∀ H' d', Ext H d H' d' → SqL K H' q ws) (hr : RepL K H d vs xs) (hq : RepL K H d ws ys) : Src K (Itz K p q) H d (zipD xs ys) := by
  refine ⟨_, _, by rw [show (zipD xs ys).length = min vs.length ws.length by simp [zipD, hr.length, hq.length]]; exact walk_zip (K := K) (a := p) (b := q) (xs := vs) (ys := ws) rfl, fun H' d' e => And.intro (hs H' d' e) (ht H' d' e), fun i H1 x' H' d1 st hi e r y => ?_⟩
  obtain ⟨T, x, z, rfl, hT, rfl, hx, hz⟩ := y
  obtain ⟨x1, h1, h2⟩ := hr.getV hx
  obtain ⟨z1, h3, h4⟩ := hq.getV hz
  refine ⟨.tup [x1, z1], ?_, rep_newT r hT (.cons (h2.over e) (.cons (h4.over e) .nil)), same_upd hT⟩
  unfold zipD
  rw [List.getElem?_map, (List.getElem?_zip_eq_some (z := (x1, z1))).mpr ⟨h1, h3⟩]; rfl
def enumD (xs : List D) : List D := xs.zipIdx.map fun p => .tup [.int p.2, p.1]
theorem src_enum (hs : ∀ H' d', Ext H d H' d' → SqL K H' p vs) (hr : RepL K H d vs xs) : Src K (Ite K p) H d (enumD xs) := by
  refine ⟨_, _, by rw [show (enumD xs).length = vs.length by simp [enumD, hr.length]]; exact walk_enum (K := K) (a := p) (xs := vs), fun H' d' e => hs H' d' e, fun i H1 x' H' d1 st hi e r y => ?_⟩
  obtain ⟨T, x, z, rfl, hT, rfl, hx, hz⟩ := y
  obtain ⟨z1, h3, h4⟩ := hr.getV hz
  cases hx
  refine ⟨.tup [.int (i : Nat), z1], ?_, rep_newT r hT (.cons (.int _) (.cons (h4.over e) .nil)), same_upd hT⟩
  unfold enumD
  rw [List.getElem?_map, List.getElem?_zipIdx, h3]; simp
end
/-- content that stands, walked: a list, a tuple, a text -/
def stands : D → Option (List D)
  | .lst xs => some xs
  | .ro xs => some xs
  | .tup xs => some xs
  | .str z => some (signs z)
  | _ => none
def iSeq (ta : Tm) : Nv → M (List D) := fun nv => bnd (ta nv) fun x => fun st => lift (stands x) st
def wSeq (K : PySem.W.Frag) (t : TE) : TI := fun σ H R => t σ H fun x H1 =>
  (∃ p, x = .ref p ∧ (∃ vs, SqL K H1 p vs) ∧ R (Itl K p) H1) ∨ (∃ p, x = .ref p ∧ (∃ vs, SqT K H1 p vs) ∧ R (Itt K p) H1) ∨ ∃ z, x = .str z ∧ R (Its z) H1
theorem pi_any {t : TE} (he : PE X e t) : PI X tg e (wSeq X.K t) := by
  refine ⟨fun pins s σ H R I h => thn (he.run pins s σ H _ I h) fun v s1 ⟨x, H1, I1, rv, q⟩ => ?_⟩
  have one : ∀ {o : Obj} {b : Addr}, b ∈ [s1.heap.objs.size] → FpOk X pins H1 b := fun {o b} hb => by
    rw [List.mem_singleton.mp hb]
    exact I1.fpOk (Nat.le_refl _) (I1.hok.fresh (Nat.le_refl _))
  have kp : ∀ (o : Obj), Inv X pins σ H1 { s1 with heap := s1.heap.push o, toks := s1.toks } := fun o => I1.kept fun b u z => Heap.get?_push_of_some _ z
  rcases q with ⟨p, rfl, ⟨vs, hq⟩, q⟩ | ⟨p, rfl, ⟨vs, hq⟩, q⟩ | ⟨z, rfl, q⟩
  · cases rv
    obtain ⟨its, _, pl, _⟩ := I1.list hq
    exact wpAny_pyIter_list pl.isList ⟨_, [s1.heap.objs.size], _, _, H1, rfl, kp _, turn_list p _, ⟨_, Heap.get?_push_size _ rfl, rfl, rfl⟩, fun b hb => one (o := default) hb, q⟩
  · cases rv
    obtain ⟨its, _, pl, _⟩ := I1.tuple hq
    exact wpAny_pyIter_tuple (show s1.heap.IsTuple p its.toArray from pl) ⟨_, [s1.heap.objs.size], _, _, H1, rfl, kp _, turn_tuple p _, ⟨_, Heap.get?_push_size _ rfl, rfl, rfl⟩, fun b hb => one (o := default) hb, q⟩
  · obtain ⟨t, rfl⟩ := rv
    cases hz : z.cps.all (· < 128) with
    | false => exact wpAny_pyIter_wide hz (pi_one (tk := s1.toks) I1 _ (turn_str _ z t "str_iterator" (.inr rfl)) ⟨_, Heap.get?_push_size _ rfl, rfl, rfl⟩ q)
    | true => exact wpAny_pyIter_ascii hz (pi_one (tk := s1.toks) I1 _ (turn_str _ z t "str_ascii_iterator" (.inl rfl)) ⟨_, Heap.get?_push_size _ rfl, rfl, rfl⟩ q)
theorem si_seq (he : PE X e (tI X.fx W ta)) : PI X tg e (tII X.fx W (iSeq ta)) := PI.imp (pi_any he) fun σ H R h => by
  obtain ⟨d, nv, st, r0, n0, q⟩ := h
  refine (rdg_bnd r0 n0 q).mono fun x st1 H1 d1 ⟨r1, n1, e1, q1⟩ v hv => ?_
  obtain ⟨xs, hx, q2⟩ := aft_lift q1
  have q3 := q2 H1 d1 (Ext.refl _ _) r1
  cases x with
  | lst ys =>
    cases hx
    cases hv with
    | lst h1 h2 => exact .inl ⟨_, rfl, ⟨_, h1.sq⟩, q3 _ (src_list (fun H' d' e => (h1.ext e).sq) h2)⟩
  | ro ys =>
    cases hx
    cases hv with
    | ro h1 h2 => exact .inl ⟨_, rfl, ⟨_, h1.sq⟩, q3 _ (src_list (fun H' d' e => (h1.ext e).sq) h2)⟩
  | tup ys =>
    cases hx
    cases hv with
    | tup h1 h2 => exact .inr (.inl ⟨_, rfl, ⟨_, h1.sq⟩, q3 _ (src_tup (fun H' d' e => (h1.ext e).sq) h2)⟩)
  | str z =>
    cases hx
    cases hv
    exact .inr (.inr ⟨z, rfl, q3 _ src_str⟩)
  | _ => cases hx
/-- range(n), range(a, b) -/
def iRng (ta : Nv → M (List D)) : Nv → M (List D) := fun nv => bnd (ta nv) fun xs => match xs with
  | [.int j] => if -(2 ^ 62) ≤ j ∧ j < 2 ^ 62 then ret (upTo 0 j.toNat) else bad
  | [.int i, .int j] => if -(2 ^ 62) ≤ i ∧ i < 2 ^ 62 ∧ -(2 ^ 62) ≤ j ∧ j < 2 ^ 62 then ret (upTo i (j - i).toNat) else bad
  | _ => bad
variable {tr : Nv → M (List D)} {p : Pos}
theorem si_range1 (hg : Gl X "range") (hm : X.mg "range" = none) (ha : PA X [a] (tIA X.fx W tr)) (hs : starEach [a] X.env = [(false, eval a X.env)] := by rfl) (h1 : ∀ nv st xs st', tr nv st = .ok xs st' → xs.length = 1) : PI X tg (.Call (.Name "range" p) [a] [] pos) (tII X.fx W (iRng tr)) :=
  PI.imp (pi_range1 hg hm ha hs) fun σ H R h => by
    obtain ⟨d, nv, st, r0, n0, q⟩ := h
    have hl := h1 nv st
    refine ⟨d, nv, st, r0, n0, ?_⟩
    unfold iRng bnd at q
    cases e : tr nv st with
    | bad => rw [e] at q; exact q
    | exc x st1 => rw [e] at q; exact q
    | ok xs st1 =>
      rw [e] at q
      have hl := hl xs st1 e
      intro H1 d1 e1 r1 vs hv
      cases hv with
      | nil => cases hl
      | @cons v vs x xs hx hxs =>
        cases hxs with
        | cons _ _ => simp at hl
        | nil =>
          cases x with
          | int j =>
            cases hx
            simp only at q
            split at q
            · rename_i hb
              exact ⟨j, rfl, hb.1, hb.2, q H1 d1 e1 r1 _ src_range⟩
            · exact False.elim q
          | _ => exact False.elim q
theorem si_range2 (hg : Gl X "range") (hm : X.mg "range" = none) (ha : PA X [a, b] (tIA X.fx W tr)) (hs : starEach [a, b] X.env = [(false, eval a X.env), (false, eval b X.env)] := by rfl) (hs2 : starEach [b] X.env = [(false, eval b X.env)] := by rfl) (h1 : ∀ nv st xs st', tr nv st = .ok xs st' → xs.length = 2) : PI X tg (.Call (.Name "range" p) [a, b] [] pos) (tII X.fx W (iRng tr)) :=
  PI.imp (pi_range2 hg hm ha hs hs2) fun σ H R h => by
    obtain ⟨d, nv, st, r0, n0, q⟩ := h
    have hl := h1 nv st
    refine ⟨d, nv, st, r0, n0, ?_⟩
    unfold iRng bnd at q
    cases e : tr nv st with
    | bad => rw [e] at q; exact q
    | exc x st1 => rw [e] at q; exact q
    | ok xs st1 =>
      rw [e] at q
      have hl := hl xs st1 e
      intro H1 d1 e1 r1 vs hv
      cases hv with
      | nil => cases hl
      | @cons v vs x xs hx hxs =>
        cases hxs with
        | nil => simp at hl
        | @cons w ws y ys hy hys =>
          cases hys with
          | cons _ _ => simp at hl
          | nil =>
            cases x with
            | int i =>
              cases y with
              | int j =>
                cases hx; cases hy
                simp only at q
                split at q
                · rename_i hb
                  exact ⟨i, j, rfl, hb, q H1 d1 e1 r1 _ src_range⟩
                · exact False.elim q
              | _ => exact False.elim q
            | _ => exact False.elim q
/-- zip(xs, ys), enumerate(xs), of lists that stand -/
def standsL : D → Option (List D)
  | .lst xs => some xs
  | .ro xs => some xs
  | _ => none
theorem standsL_of {K : PySem.W.Frag} {H : Hp} {d : Dm} {v : V} {x : D} {xs : List D} (h : Rep K H d v x) (e : standsL x = some xs) : ∃ q vs, v = .ref q ∧ (∀ H' d', Ext H d H' d' → SqL K H' q vs) ∧ RepL K H d vs xs := by
  cases h with
  | lst h1 h2 => cases e; exact ⟨_, _, rfl, fun H' d' e => (h1.ext e).sq, h2⟩
  | ro h1 h2 => cases e; exact ⟨_, _, rfl, fun H' d' e => (h1.ext e).sq, h2⟩
  | _ => cases e
def iZip (ta : Nv → M (List D)) : Nv → M (List D) := fun nv => bnd (ta nv) fun xs => match xs with
  | [x, y] => match standsL x, standsL y with
    | some xs, some ys => ret (zipD xs ys)
    | _, _ => bad
  | _ => bad
theorem si_zip {tpos : Pos} {elts : List Expr} {kk : Nat} (hg : Gl X "zip") (hm : X.mg "zip" = none) (ha : PA X [a, b] (tIA X.fx W tr)) (hs : starEach [a, b] X.env = (false, eval a X.env) :: starEach [b] X.env := by rfl) (hpl : (backTo pos (starEach [b] X.env)).any (·.1) = false := by rfl) :
    PI X (.Tuple elts kk tpos) (.Call (.Name "zip" p) [a, b] [] pos) (tII X.fx W (iZip tr)) :=
  PI.imp (pi_zip hg hm ha hs hpl) fun σ H R h => by
    obtain ⟨d, nv, st, r0, n0, q⟩ := h
    refine (rdg_bnd r0 n0 q).mono fun xs st1 H1 d1 ⟨r1, n1, e1, q1⟩ vs hv => ?_
    cases hv with
    | nil => exact False.elim q1
    | @cons v vs x xs hx hxs =>
      cases hxs with
      | nil => exact False.elim q1
      | @cons w ws y ys hy hys =>
        cases hys with
        | cons _ _ => exact False.elim q1
        | nil =>
          simp only at q1
          cases e2 : standsL x with
          | none => rw [e2] at q1; exact False.elim q1
          | some us =>
            cases e3 : standsL y with
            | none => rw [e2, e3] at q1; exact False.elim q1
            | some zs =>
              rw [e2, e3] at q1
              obtain ⟨q', vs', rfl, h1, h2⟩ := standsL_of hx e2
              obtain ⟨q2, ws', rfl, h3, h4⟩ := standsL_of hy e3
              exact ⟨q', q2, vs', ws', rfl, h1 _ _ (Ext.refl _ _), h3 _ _ (Ext.refl _ _), q1 H1 d1 (Ext.refl _ _) r1 _ (src_zip h1 h3 h2 h4)⟩
def iEnu (ta : Nv → M (List D)) : Nv → M (List D) := fun nv => bnd (ta nv) fun xs => match xs with
  | [x] => match standsL x with
    | some xs => ret (enumD xs)
    | _ => bad
  | _ => bad
theorem si_enum {tpos : Pos} {elts : List Expr} {kk : Nat} (hg : Gl X "enumerate") (hm : X.mg "enumerate" = none) (ha : PA X [a] (tIA X.fx W tr)) (hs : starEach [a] X.env = [(false, eval a X.env)] := by rfl) :
    PI X (.Tuple elts kk tpos) (.Call (.Name "enumerate" p) [a] [] pos) (tII X.fx W (iEnu tr)) :=
  PI.imp (pi_enum hg hm ha hs) fun σ H R h => by
    obtain ⟨d, nv, st, r0, n0, q⟩ := h
    refine (rdg_bnd r0 n0 q).mono fun xs st1 H1 d1 ⟨r1, n1, e1, q1⟩ vs hv => ?_
    cases hv with
    | nil => exact False.elim q1
    | @cons v vs x xs hx hxs =>
      cases hxs with
      | cons _ _ => exact False.elim q1
      | nil =>
        simp only at q1
        cases e2 : standsL x with
        | none => rw [e2] at q1; exact False.elim q1
        | some us =>
          rw [e2] at q1
          obtain ⟨q', vs', rfl, h1, h2⟩ := standsL_of hx e2
          exact ⟨q', vs', rfl, h1 _ _ (Ext.refl _ _), q1 H1 d1 (Ext.refl _ _) r1 _ (src_enum h1 h2)⟩

/-! ### for -/
def loopD (g : Tg) (body : Ts) : List D → Ts
  | [], nv => ret (.nx nv)
  | x :: xs, nv => fun st => match g x nv st with
    | .ok nv1 st1 => match body nv1 st1 with
      | .ok (.nx nv2) st2 => loopD g body xs nv2 st2
      | .ok (.ct nv2) st2 => loopD g body xs nv2 st2
      | .ok (.bk nv2) st2 => .ok (.nx nv2) st2
      | o => o
    | _ => .bad
def sFor (src : Nv → M (List D)) (g : Tg) (body : Ts) : Ts := sDo src fun xs nv => loopD g body xs nv
theorem ss_for {src : Nv → M (List D)} {g : Tg} {body : Ts} {iter : Expr} {stmts : List Stmt} (hp : PassesOwn (model X.prog X.w) X.A X.env X.xe) (hc : X.calm = true) (hi : PI X tg iter (tII X.fx W src)) {S : Nat → Prop} (hg : PG X tg (tIG X.fx S g)) (hb : PSs X stmts (tIS X.fx W body))
    (hs : ∀ x, foldedSetIterable iter X.env x = pure x := by intro _; rfl) : PS X (.For tg iter stmts [] pos) (tIS X.fx W (sFor src g body)) := by
  refine PS.imp (ps_for hp hc hi hg hb hs) fun E σ H h => ?_
  obtain ⟨d, nv, st, r0, n0, q⟩ := h
  refine (tIS_do r0 n0 q).mono fun xs st1 H1 d1 ⟨r1, n1, e1, q1⟩ J sJ => ?_
  obtain ⟨G, Y, w, hG, hY⟩ := sJ.has
  refine for_it w (fun i σ H => ∃ d nv st, Ext H1 d1 H d ∧ Rl X.K H d st ∧ NvR X.K H d σ nv ∧ AftS X.fx W E H d (loopD g body (xs.drop i) nv st)) ⟨d1, nv, st1, Ext.refl _ _, r1, n1, by simpa using q1⟩ ?_ ?_ ?_
  · rintro i σ H _ ⟨d, nv, st, e, r, n, q⟩
    exact hG H d e
  · rintro i x σ H H' hi ⟨d, nv, st, e, r, n, q⟩ y
    obtain ⟨z, hz, hr, sm⟩ := hY i H x H' d st hi e.over r y
    have hd : xs.drop i = z :: xs.drop (i + 1) := by
      have hz2 := List.getElem?_eq_some_iff.mp hz
      obtain ⟨hl, hz2⟩ := hz2
      rw [List.drop_eq_getElem_cons hl, hz2]
    rw [hd] at q
    refine ⟨d, nv, st, z, r.same sm, n.ext (Ext.same sm), hr, ?_⟩
    have q : AftS X.fx W E H d (match g z nv st with
      | .ok nv1 st1 => match body nv1 st1 with
        | .ok (.nx nv2) st2 => loopD g body (xs.drop (i + 1)) nv2 st2
        | .ok (.ct nv2) st2 => loopD g body (xs.drop (i + 1)) nv2 st2
        | .ok (.bk nv2) st2 => .ok (.nx nv2) st2
        | o => o
      | _ => .bad) := q
    cases e2 : g z nv st with
    | exc _ _ => rw [e2] at q; exact False.elim q
    | bad => rw [e2] at q; exact False.elim q
    | ok nv1 st2 =>
      rw [e2] at q
      simp only at q
      intro H2 d2 σ2 e3 r2 n2 _
      have e4 : Ext H1 d1 H2 d2 := (e.trans (Ext.same sm)).trans e3
      have q := AftS.ext ((Ext.same sm).trans e3) q
      refine ⟨d2, nv1, st2, r2, n2, ?_⟩
      cases e5 : body nv1 st2 with
      | exc _ _ => rw [e5] at q; exact False.elim q
      | bad => rw [e5] at q; exact False.elim q
      | ok f st3 =>
        rw [e5] at q
        intro H3 d3 e6 r3
        cases f with
        | nx nv2 => exact fun σ3 n3 => ⟨d3, nv2, st3, e4.trans e6, r3, n3, AftS.ext e6 q⟩
        | ct nv2 => exact fun σ3 n3 => ⟨d3, nv2, st3, e4.trans e6, r3, n3, AftS.ext e6 q⟩
        | bk nv2 => exact fun σ3 n3 => q H3 d3 e6 r3 σ3 n3
        | rt x => exact q H3 d3 e6 r3
        | ex x nv2 => exact q H3 d3 e6 r3
  · rintro σ H ⟨d, nv, st, e, r, n, q⟩
    rw [List.drop_length] at q
    exact q H d (Ext.refl _ _) r σ n
/-! ### while, by so many turns at most -/
def whileD (c : Nv → M Bool) (body : Ts) : Nat → Ts
  | 0, _ => fun _ => .bad
  | k + 1, nv => sDo c (fun b nv => if b = true then (fun st => match body nv st with
      | .ok (.nx nv2) st2 => whileD c body k nv2 st2
      | .ok (.ct nv2) st2 => whileD c body k nv2 st2
      | .ok (.bk nv2) st2 => .ok (.nx nv2) st2
      | o => o) else ret (.nx nv)) nv
theorem ss_while {c : Expr} {tc : Nv → M Bool} {body : Ts} {stmts : List Stmt} (k : Nat) (hp : PassesOwn (model X.prog X.w) X.A X.env X.xe) (hc : PT X c (tIT X.fx W tc)) (hb : PSs X stmts (tIS X.fx W body)) : PS X (.While c stmts [] pos) (tIS X.fx W (whileD tc body k)) := by
  refine PS.imp (ps_while hp hc hb) fun E σ H h => ?_
  refine ⟨fun k σ H => ∃ d nv st, Rl X.K H d st ∧ NvR X.K H d σ nv ∧ AftS X.fx W E H d (whileD tc body k nv st), ⟨k, h⟩, ?_⟩
  rintro k σ H ⟨d, nv, st, r, n, q⟩
  cases k with
  | zero => exact False.elim q
  | succ k =>
    refine (tIS_do r n q).mono fun b st1 H1 d1 ⟨r1, n1, e1, q1⟩ => ?_
    cases b with
    | false => exact iteF (aftS_ok q1 r1 σ n1)
    | true =>
      refine iteT ⟨fun σ H => ∃ d nv st, Rl X.K H d st ∧ NvR X.K H d σ nv ∧ AftS X.fx W E H d (whileD tc body k nv st), fun σ H h => ⟨k, Nat.lt_succ_self k, h⟩, d1, nv, st1, r1, n1, ?_⟩
      have q1 : AftS X.fx W E H1 d1 (match body nv st1 with
        | .ok (.nx nv2) st2 => whileD tc body k nv2 st2
        | .ok (.ct nv2) st2 => whileD tc body k nv2 st2
        | .ok (.bk nv2) st2 => .ok (.nx nv2) st2
        | o => o) := q1
      cases e5 : body nv st1 with
      | exc _ _ => rw [e5] at q1; exact False.elim q1
      | bad => rw [e5] at q1; exact False.elim q1
      | ok f st3 =>
        rw [e5] at q1
        intro H3 d3 e6 r3
        cases f with
        | nx nv2 => exact fun σ3 n3 => ⟨d3, nv2, st3, r3, n3, AftS.ext e6 q1⟩
        | ct nv2 => exact fun σ3 n3 => ⟨d3, nv2, st3, r3, n3, AftS.ext e6 q1⟩
        | bk nv2 => exact fun σ3 n3 => q1 H3 d3 e6 r3 σ3 n3
        | rt x => exact q1 H3 d3 e6 r3
        | ex x nv2 => exact q1 H3 d3 e6 r3
end
end PV
end

section
/-! List comprehensions over plain values. -/
namespace PV
open PySem PySem.Spec PyProof.Rows L2
/-- nothing is wished of exceptions: none leaves a comprehension here -/
abbrev W0 : WX' := fun _ _ _ _ => False
def wipeN (nv : Nv) : List Nat → Nv
  | [] => nv
  | v :: vs => (wipeN nv vs).set v none
theorem wipeN_length (nv : Nv) : ∀ vs, (wipeN nv vs).length = nv.length
  | [] => rfl
  | v :: vs => by unfold wipeN; rw [List.length_set, wipeN_length nv vs]
theorem wipe_out (σ : L2.St) {j : Nat} : ∀ vs : List Nat, j ∉ vs → (wipe σ vs)[j]? = σ[j]?
  | [], _ => rfl
  | v :: vs, h => by
    unfold wipe
    rw [List.getElem?_set_ne (fun z => h (by rw [z]; exact List.mem_cons_self))]
    exact wipe_out σ vs fun z => h (List.mem_cons_of_mem _ z)
theorem wipe_in (σ : L2.St) {j : Nat} : ∀ vs : List Nat, j ∈ vs → j < σ.length → (wipe σ vs)[j]? = some none
  | v :: vs, h, hl => by
    unfold wipe
    by_cases e : v = j
    · subst e
      rw [List.getElem?_set_self (by rw [wipe_length]; exact hl)]
    · rw [List.getElem?_set_ne e]
      exact wipe_in σ vs ((List.mem_cons.mp h).resolve_left fun z => e z.symm) hl
theorem wipe_chg {σ σ2 : L2.St} {vs : List Nat} (c : Chg (· ∈ vs) (wipe σ vs) σ2) : wipe σ2 vs = wipe σ vs := by
  have hl : σ2.length = σ.length := by rw [c.1, wipe_length]
  refine List.ext_getElem? fun j => ?_
  by_cases h : j ∈ vs
  · by_cases hj : j < σ.length
    · rw [wipe_in σ2 vs h (by rw [hl]; exact hj), wipe_in σ vs h hj]
    · rw [List.getElem?_eq_none (by rw [wipe_length]; omega), List.getElem?_eq_none (by rw [wipe_length]; omega)]
  · rw [wipe_out σ2 vs h, c.2 j h]
theorem nvr_wipe {K : PySem.W.Frag} {H : Hp} {d : Dm} {σ : L2.St} {nv : Nv} (n : NvR K H d σ nv) : ∀ vs, NvR K H d (wipe σ vs) (wipeN nv vs)
  | [] => n
  | v :: vs => by
    have ih := nvr_wipe n vs
    refine ⟨by rw [wipe_length, wipeN_length]; exact n.len, fun i x h => ?_⟩
    unfold wipeN at h
    by_cases e : v = i
    · subst e
      have hl : v < (wipeN nv vs).length := by
        have := (List.getElem?_eq_some_iff.mp h).1
        simpa using this
      rw [List.getElem?_set_self hl] at h
      cases h
    · rw [List.getElem?_set_ne e] at h
      obtain ⟨u, h1, h2⟩ := ih.at' i x h
      exact ⟨u, by unfold wipe; rw [List.getElem?_set_ne e]; exact h1, h2⟩
/-- one turn after another; what was made so far is acc -/
def compD (g : Tg) (tt : Nv → M Bool) (te : Tm) (nv : Nv) : List D → List D → M (List D)
  | acc, [] => ret acc
  | acc, x :: xs => fun st => match g x nv st with
    | .ok nv1 st1 => match tt nv1 st1 with
      | .ok true st2 => match te nv1 st2 with
        | .ok y st3 => if acc.length < sizeLine then compD g tt te nv (acc ++ [y]) xs st3 else .bad
        | _ => .bad
      | .ok false st2 => compD g tt te nv acc xs st2
      | _ => .bad
    | _ => .bad
def cLc (vs : List Nat) (src : Nv → M (List D)) (g : Tg) (tt : Nv → M Bool) (te : Tm) : Nv → M (List D) := fun nv => bnd (src nv) fun xs => compD g tt te (wipeN nv vs) [] xs
def tYes' : Nv → M Bool := fun _ => ret true
section
variable {X : Cx} {W : WX'}
theorem lc_of {vs : List Nat} {src : Nv → M (List D)} {g : Tg} {tt : Nv → M Bool} {te : Tm} {σ : L2.St} {H : Hp} {Q : VK} (h : tIN X.fx W (cLc vs src g tt te) σ H Q) : tLc (tII X.fx W src) (tIG X.fx (· ∈ vs) g) (tIT X.fx W0 tt) (tI X.fx W0 te) vs σ H Q := by
  obtain ⟨d, nv, st, r0, n0, q⟩ := h
  refine (rdg_bndN r0 n0 q).mono fun xs st1 H1 d1 ⟨r1, n1, e1, q1⟩ J sJ Dl hD => ?_
  obtain ⟨G, Y, w, hG, hY⟩ := sJ.has
  obtain ⟨m1, f1⟩ := d1
  have off1 := r1.new hD
  refine lc_it w (fun i H => ∃ m st acc av, Ext H1 ⟨m1, f1⟩ H ⟨m, f1⟩ ∧ Rl X.K H ⟨m, Dl :: f1⟩ st ∧ H Dl = some (.lst av) ∧ RepL X.K H ⟨m, Dl :: f1⟩ av acc ∧ AftN X.fx (Wat W σ) H1 ⟨m1, f1⟩ (compD g tt te (wipeN nv vs) acc (xs.drop i) st) Q)
    ⟨m1, st1, [], [], Ext.same (same_upd hD), r1.bar (same_upd hD) hD (by rw [upd_same]; exact fun z => nomatch z), upd_same, .nil, by simpa using q1⟩ ?_ ?_ ?_
  · rintro i H' _ ⟨m, st, acc, av, e, r, hv, ha, q⟩
    exact hG H' ⟨m, f1⟩ e
  · rintro i x H2 H3 hi ⟨m, st, acc, av, e, r, hv, ha, q⟩ y
    have ov : Over X.K H1 ⟨m1, f1⟩ H2 ⟨m, Dl :: f1⟩ := (Over.bar hD).trans (Ext.over (d := ⟨m1, Dl :: f1⟩) (d' := ⟨m, Dl :: f1⟩) ⟨e.keep, e.pre, e.new, rfl⟩)
    obtain ⟨z, hz, hr, sm⟩ := hY i H2 x H3 ⟨m, Dl :: f1⟩ st hi ov r y
    have hd : xs.drop i = z :: xs.drop (i + 1) := by
      obtain ⟨hl, hz2⟩ := List.getElem?_eq_some_iff.mp hz
      rw [List.drop_eq_getElem_cons hl, hz2]
    rw [hd] at q
    refine ⟨⟨m, Dl :: f1⟩, wipeN nv vs, st, z, r.same sm, nvr_wipe ((n1.over ov).ext (Ext.same sm)) vs, hr, ?_⟩
    have q : AftN X.fx (Wat W σ) H1 ⟨m1, f1⟩ (match g z (wipeN nv vs) st with
      | .ok nv1 st1 => match tt nv1 st1 with
        | .ok true st2 => match te nv1 st2 with
          | .ok y st3 => if acc.length < sizeLine then compD g tt te (wipeN nv vs) (acc ++ [y]) (xs.drop (i + 1)) st3 else .bad
          | _ => .bad
        | .ok false st2 => compD g tt te (wipeN nv vs) acc (xs.drop (i + 1)) st2
        | _ => .bad
      | _ => .bad) Q := q
    cases e2 : g z (wipeN nv vs) st with
    | exc _ _ => rw [e2] at q; exact False.elim q
    | bad => rw [e2] at q; exact False.elim q
    | ok nv1 st2 =>
      rw [e2] at q
      simp only at q
      rintro H4 ⟨m4, f4⟩ σ4 e4 r4 n4 c4
      obtain rfl : f4 = Dl :: f1 := e4.ff
      have ee4 := (e.trans (Ext.same sm)).trans e4.bar
      refine ⟨wipe_chg c4, ⟨m4, Dl :: f1⟩, nv1, st2, r4, n4, ?_⟩
      cases e5 : tt nv1 st2 with
      | exc _ _ => rw [e5] at q; exact False.elim q
      | bad => rw [e5] at q; exact False.elim q
      | ok bb st3 =>
        rw [e5] at q
        rintro H5 ⟨m5, f5⟩ e6 r5
        obtain rfl : f5 = Dl :: f1 := e6.ff
        have ee5 := ee4.trans e6.bar
        have hv5 := ((Ext.same sm).trans (e4.trans e6))
        have hvD : H5 Dl = some (.lst av) := hv5.keep Dl _ hv (r.ff Dl List.mem_cons_self).2
        cases bb with
        | false => exact iteF ⟨m5, st3, acc, av, ee5, r5, hvD, ha.ext hv5, q⟩
        | true =>
          refine iteT ⟨⟨m5, Dl :: f1⟩, nv1, st3, r5, n4.ext e6, ?_⟩
          simp only at q
          cases e7 : te nv1 st3 with
          | exc _ _ => rw [e7] at q; exact False.elim q
          | bad => rw [e7] at q; exact False.elim q
          | ok yy st4 =>
            rw [e7] at q
            rintro H6 ⟨m6, f6⟩ e8 r6 u hu
            obtain rfl : f6 = Dl :: f1 := e8.ff
            have hv6 := hv5.trans e8
            simp only at q
            split at q
            · rename_i hl
              have ha6 := ha.ext hv6
              refine ⟨av, hv6.keep Dl _ hv (r.ff Dl List.mem_cons_self).2, by rw [ha.length]; exact hl, m6, st4, acc ++ [yy], av ++ [u], ?_, r6.putF, upd_same, (ha6.append (.cons hu .nil)).over Over.putF, q⟩
              have ee6 := ee5.trans e8.bar
              exact ⟨fun a o ho hn => by rw [upd_ne (ne_of_none ho hD)]; exact ee6.keep a o ho hn, ee6.pre, ee6.new, rfl⟩
            · exact False.elim q
  · rintro H' ⟨m, st, acc, av, e, r, hv, ha, q⟩
    rw [List.drop_length] at q
    exact q H' m Dl av e hD hv r ha
end
end PV
end

section
/-! Defs and calls over plain values. -/
namespace PV
open PySem PySem.Spec PyProof.Rows L2
section
variable {X : Cx} {W : WX'}
/-! ### comprehensions as expressions and as stored at once -/
theorem tIN_frz {t : Nv → M (List D)} {σ : L2.St} {H : Hp} {Q : VK} (h : tI X.fx W (frz t) σ H Q) : tIN X.fx W t σ H Q := by
  obtain ⟨d, nv, st, r0, n0, q⟩ := h
  refine ⟨d, nv, st, r0, n0, ?_⟩
  unfold frz bnd at q
  cases e : t nv st with
  | ok ds st1 =>
    rw [e] at q
    exact fun H' m' p vs e1 hp hv r1 hr => q H' ⟨m', d.f⟩ e1 r1.drop _ (.lst ⟨hv, (r1.ff p List.mem_cons_self).2, fun z => (r0.ff p z).1 hp⟩ (hr.over Over.drop))
  | exc x st1 => rw [e] at q; exact q
  | bad => rw [e] at q; exact q
theorem tIN_own {t : Nv → M (List D)} {σ : L2.St} {H : Hp} {Q : VK} (h : tI X.fx W (own t) σ H Q) : tIN X.fx W t σ H Q := by
  obtain ⟨d, nv, st, r0, n0, q⟩ := h
  refine ⟨d, nv, st, r0, n0, ?_⟩
  unfold own bnd at q
  cases e : t nv st with
  | ok ds st1 =>
    rw [e] at q
    refine fun H' m' p vs e1 hp hv r1 hr => ?_
    have hf : p ∉ d.f := fun z => (r0.ff p z).1 hp
    refine q H' ⟨m' ++ [p], d.f⟩ ⟨e1.keep, ?_, fun a ha hn => ?_, rfl⟩ (r1.take ⟨vs, hv, hr⟩ hf) _ (.ref ?_)
    · obtain ⟨t, ht⟩ := e1.pre
      have ht : m' = d.m ++ t := ht
      exact ⟨t ++ [p], by rw [ht, List.append_assoc]⟩
    · rcases List.mem_append.mp ha with z | z
      · exact e1.new a z hn
      · rw [List.mem_singleton.mp z]; exact hp
    · show (m' ++ [p])[st1.length]? = some p
      rw [← show m'.length = st1.length from r1.len]; simp
  | exc x st1 => rw [e] at q; exact q
  | bad => rw [e] at q; exact q
variable {elt tg iter e a : Expr} {ifs : List Expr} {scope : Scope} {own' : List (Str × Nat)} {pos : Pos} {src : Nv → M (List D)} {g : Tg} {tt : Nv → M Bool} {te ta : Tm} {es : List Expr}
theorem sl_no {Y : Cx} : PTs Y [] (tIT Y.fx W0 tYes') := ⟨fun pins s σ H Q I h => pts_nil.run pins s σ H Q I (by
  obtain ⟨d, nv, st, r0, n0, q⟩ := h
  exact aft_ret q r0)⟩
theorem sl_one {Y : Cx} {c : Expr} (h : PT Y c (tIT Y.fx W0 tt)) : PTs Y [c] (tIT Y.fx W0 tt) := pts_one h
theorem sn_lc (hc : X.calm = true) (hN : X.N.Nodup) (hi : PI X tg iter (tII X.fx W src)) (ok : BlkOk X.N X.env.scope scope own')
    (hg : ∀ (s : Shared) (H : Hp) (C : Addr) (cl : List (Str × Addr)) (fp : List Addr), PG (X.blk s H scope (compEnvC scope cl C X.env) fp) tg (tIG X.fx (· ∈ own'.map (·.2)) g))
    (ht : ∀ (s : Shared) (H : Hp) (C : Addr) (cl : List (Str × Addr)) (fp : List Addr), PTs (X.blk s H scope (compEnvC scope cl C X.env) fp) ifs (tIT X.fx W0 tt))
    (he : ∀ (s : Shared) (H : Hp) (C : Addr) (cl : List (Str × Addr)) (fp : List Addr), PE (X.blk s H scope (compEnvC scope cl C X.env) fp) elt (tI X.fx W0 te)) (hs : ∀ x, foldedSetIterable iter X.env x = pure x := by intro _; rfl) :
    PE X (.ListComp elt [⟨tg, iter, ifs, 0⟩] scope pos) (tIN X.fx W (cLc (own'.map (·.2)) src g tt te)) :=
  PE.imp (pe_lc hc hN hi ok hg ht he hs) fun σ H Q h => lc_of h
/-- y = [..], stored within -/
theorem ss_setLc {i : Nat} {y : Str} {py spos : Pos} {tm : Tm} (hc : X.calm = true) (hN : X.N.Nodup) (hi : PI X tg iter (tII X.fx W src)) (ok : BlkOk X.N X.env.scope scope own')
    (hg : ∀ (s : Shared) (H : Hp) (C : Addr) (cl : List (Str × Addr)) (fp : List Addr), PG (X.blk s H scope (compEnvC scope cl C X.env) fp) tg (tIG X.fx (· ∈ own'.map (·.2)) g))
    (ht : ∀ (s : Shared) (H : Hp) (C : Addr) (cl : List (Str × Addr)) (fp : List Addr), PTs (X.blk s H scope (compEnvC scope cl C X.env) fp) ifs (tIT X.fx W0 tt))
    (he : ∀ (s : Shared) (H : Hp) (C : Addr) (cl : List (Str × Addr)) (fp : List Addr), PE (X.blk s H scope (compEnvC scope cl C X.env) fp) elt (tI X.fx W0 te))
    (hf : tm = frz (cLc (own'.map (·.2)) src g tt te) ∨ tm = own (cLc (own'.map (·.2)) src g tt te))
    (hy : X.N[i]? = some y := by rfl) (hyl : X.env.scope.names.lookup y = some .local := by rfl) (hsw : swapsWith (.ListComp elt [⟨tg, iter, ifs, 0⟩] scope pos) (some (.Name y py)) spos.line X.env = pure true := by exact sw_true rfl rfl rfl (by decide +kernel)) (hs : ∀ x, foldedSetIterable iter X.env x = pure x := by intro _; rfl) :
    PS X (.Assign [.Name y py] (.ListComp elt [⟨tg, iter, ifs, 0⟩] scope pos) spos) (tIS X.fx W (sAsg tm (gNm i))) := by
  refine PS.imp (ps_setLc hc hN hy hyl hsw hi ok hg ht he hs) fun E σ H h => ?_
  have h2 : tI X.fx W tm σ H fun v H1 => E.nx (σ.set i (some v)) H1 := by
    obtain ⟨d, nv, st, r, n, q⟩ := h
    exact (tIS_do r n q).mono fun x st1 H1 d1 ⟨r1, n1, e1, q1⟩ v hv => aftS_ok q1 r1 _ (n1.set hv)
  rcases hf with rfl | rfl
  · exact lc_of (tIN_frz h2)
  · exact lc_of (tIN_own h2)

/-! ### what a def does: its body run at its arguments -/
abbrev Fn := List D → M D
/-- references from n on: told by content where they are lists -/
def thaw (st : Sto) (n : Nat) : Nat → D → Option D
  | _, .non => some .non
  | _, .bl b => some (.bl b)
  | _, .int i => some (.int i)
  | _, .str x => some (.str x)
  | 0, _ => none
  | k + 1, .tup xs => (xs.mapM (thaw st n k)).map .tup
  | k + 1, .lst xs => (xs.mapM (thaw st n k)).map .lst
  | k + 1, .ro xs => (xs.mapM (thaw st n k)).map .ro
  | k + 1, .ref j => if j < n then some (.ref j) else match st[j]? with
    | some (.lst xs) => (xs.mapM (thaw st n k)).map .lst
    | _ => none
mutual
/-- no reference from n on -/
def below (n : Nat) : D → Bool
  | .ref j => decide (j < n)
  | .tup xs => belowL n xs
  | .lst xs => belowL n xs
  | .ro xs => belowL n xs
  | .non => true
  | .bl _ => true
  | .int _ => true
  | .str _ => true
def belowL (n : Nat) : List D → Bool
  | [] => true
  | x :: xs => below n x && belowL n xs
end
def belowS (n : Nat) : SO → Bool
  | .lst xs => belowL n xs
  | .dic kvs => kvs.all fun kv => below n kv.2
/-- the old part of the store leans on nothing new -/
def OldOk (st st' : Sto) : Prop := ∀ (i : Nat) (o : SO), i < st.length → st'[i]? = some o → st[i]? = some o ∨ belowS st.length o = true
open Classical in
noncomputable def leaveD (fz : Bool) (st : Sto) : Out Fl → Out D
  | .ok (.rt x) st' => if fz = true then (match thaw st' st.length 40 x with
      | some y => if OldOk st st' ∧ st.length ≤ st'.length then .ok y (st'.take st.length) else .bad
      | none => .bad) else .ok x st'
  | .ok (.nx _) st' => if fz = true then (if OldOk st st' ∧ st.length ≤ st'.length then .ok .non (st'.take st.length) else .bad) else .ok .non st'
  | .ok (.ex x _) st' => if fz = true then (if (OldOk st st' ∧ st.length ≤ st'.length) ∧ ((x.fs.getD []).all fun p => below st.length p.2) = true then .exc x (st'.take st.length) else .bad) else .exc x st'
  | _ => .bad
/-- the names' values at the entry -/
def startN (n : Nat) (ds : List D) : Nv := ds.map some ++ List.replicate (n - ds.length) none
noncomputable def runF (fz : Bool) (np n : Nat) (body : Ts) : Fn := fun ds st => if ds.length = np then leaveD fz st (body (startN n ds) st) else .bad
end
/-! ### .. and keeps it: what is left behind -/
section
variable {K : PySem.W.Frag} {H : Hp} {m f : List Addr} {st : Sto} {n : Nat}
theorem mem_take_ix {m : List Addr} (nd : m.Nodup) {j n : Nat} {a : Addr} (h : m[j]? = some a) (hj : ¬ j < n) : a ∉ m.take n := fun z => by
  obtain ⟨i, hi, e⟩ := List.getElem_of_mem z
  have hi' : i < n := by
    rw [List.length_take] at hi; omega
  have h2 : m[i]? = some a := by
    rw [List.getElem_take] at e
    rw [List.getElem?_eq_getElem (by rw [List.length_take] at hi; omega), e]
  have := nd_ix nd h2 h
  omega
theorem off_take {a : Addr} (h : Off ⟨m, f⟩ a) : Off ⟨m.take n, f⟩ a := ⟨fun z => h.1 (List.mem_of_mem_take z), h.2⟩
theorem fzT_take {a : Addr} {vs : List V} (h : FzT K H ⟨m, f⟩ a vs) : FzT K H ⟨m.take n, f⟩ a vs := by
  rcases h with ⟨h, o⟩ | h
  · exact .inl ⟨h, off_take o⟩
  · exact .inr h
theorem fzR_take {a : Addr} {vs : List V} (h : FzR K H ⟨m, f⟩ a vs) : FzR K H ⟨m.take n, f⟩ a vs := by
  rcases h with ⟨h, o⟩ | h
  · exact .inl ⟨h, off_take o⟩
  · exact .inr h
theorem mapM_rep {g : D → Option D} {d' : Dm} (ih : ∀ v x y, Rep K H ⟨m, f⟩ v x → g x = some y → Rep K H d' v y) : ∀ {vs : List V} {xs ys : List D}, RepL K H ⟨m, f⟩ vs xs → xs.mapM g = some ys → RepL K H d' vs ys
  | _, [], ys, h, e => by
    cases h
    simp at e
    subst e; exact .nil
  | _, x :: xs, ys, h, e => by
    cases h with
    | cons h1 h2 =>
      rw [List.mapM_cons] at e
      cases e1 : g x with
      | none => rw [e1] at e; cases e
      | some y =>
        cases e2 : xs.mapM g with
        | none => rw [e1, e2] at e; cases e
        | some zs =>
          rw [e1, e2] at e
          cases e
          exact .cons (ih _ _ _ h1 e1) (mapM_rep ih h2 e2)
theorem thaw_rep (r : Rl K H ⟨m, f⟩ st) : ∀ (k : Nat) (v : V) (x y : D), Rep K H ⟨m, f⟩ v x → thaw st n k x = some y → Rep K H ⟨m.take n, f⟩ v y
  | k, _, .non, y, h, e => by
    cases h
    simp only [thaw] at e
    cases e; exact .non
  | k, _, .bl b, y, h, e => by
    cases h
    simp only [thaw] at e
    cases e; exact .bl b
  | k, _, .int b, y, h, e => by
    cases h
    simp only [thaw] at e
    cases e; exact .int b
  | k, _, .str b, y, h, e => by
    cases h
    simp only [thaw] at e
    cases e; exact .str b
  | 0, _, .tup _, y, h, e => by simp only [thaw] at e; cases e
  | 0, _, .lst _, y, h, e => by simp only [thaw] at e; cases e
  | 0, _, .ro _, y, h, e => by simp only [thaw] at e; cases e
  | 0, _, .ref _, y, h, e => by simp only [thaw] at e; cases e
  | k + 1, _, .tup xs, y, h, e => by
    simp only [thaw] at e
    obtain ⟨ys, e1, rfl⟩ := Option.map_eq_some_iff.mp e
    cases h with
    | tup h1 h2 => exact .tup (fzT_take h1) (mapM_rep (thaw_rep r k) h2 e1)
  | k + 1, _, .lst xs, y, h, e => by
    simp only [thaw] at e
    obtain ⟨ys, e1, rfl⟩ := Option.map_eq_some_iff.mp e
    cases h with
    | lst h1 h2 => exact .lst ⟨h1.1, off_take h1.2⟩ (mapM_rep (thaw_rep r k) h2 e1)
  | k + 1, _, .ro xs, y, h, e => by
    simp only [thaw] at e
    obtain ⟨ys, e1, rfl⟩ := Option.map_eq_some_iff.mp e
    cases h with
    | ro h1 h2 => exact .ro (fzR_take h1) (mapM_rep (thaw_rep r k) h2 e1)
  | k + 1, _, .ref j, y, h, e => by
    simp only [thaw] at e
    cases h with
    | @ref a _ hj =>
      split at e
      · rename_i hlt
        cases e
        refine .ref ?_
        show (m.take n)[j]? = some a
        rw [List.getElem?_take_of_lt hlt]; exact hj
      · rename_i hlt
        cases q : st[j]? with
        | none => rw [q] at e; cases e
        | some o =>
          rw [q] at e
          cases o with
          | dic _ => cases e
          | lst xs =>
            obtain ⟨ys, e1, rfl⟩ := Option.map_eq_some_iff.mp e
            obtain ⟨b, hb, vs, h2, h3⟩ := r.at' j _ q
            rw [hj] at hb; cases hb
            have hj' : m[j]? = some a := hj
            exact .lst ⟨h2, mem_take_ix r.nd hj' hlt, fun z => (r.ff a z).2 (List.mem_of_getElem? hj')⟩ (mapM_rep (thaw_rep r k) h3 e1)
mutual
theorem below_rep : ∀ {v : V} {x : D}, Rep K H ⟨m, f⟩ v x → below n x = true → Rep K H ⟨m.take n, f⟩ v x
  | _, _, .non, _ => .non
  | _, _, .bl b, _ => .bl b
  | _, _, .int i, _ => .int i
  | _, _, .str x, _ => .str x
  | _, _, .tup h r, e => .tup (fzT_take h) (belowL_rep r (by simpa only [below] using e))
  | _, _, .lst h r, e => .lst ⟨h.1, off_take h.2⟩ (belowL_rep r (by simpa only [below] using e))
  | _, _, .ro h r, e => .ro (fzR_take h) (belowL_rep r (by simpa only [below] using e))
  | _, _, .ref (a := a) (n := j) h, e => .ref (by
    have e : j < n := by simpa only [below, decide_eq_true_eq] using e
    show (m.take n)[j]? = some a
    rw [List.getElem?_take_of_lt e]; exact h)
theorem belowL_rep : ∀ {vs : List V} {xs : List D}, RepL K H ⟨m, f⟩ vs xs → belowL n xs = true → RepL K H ⟨m.take n, f⟩ vs xs
  | _, _, .nil, _ => .nil
  | _, _, .cons h r, e => by
    simp only [belowL, Bool.and_eq_true] at e
    exact .cons (below_rep h e.1) (belowL_rep r e.2)
end
mutual
theorem rep_below {d : Dm} : ∀ {v : V} {x : D}, Rep K H d v x → below d.m.length x = true
  | _, _, .non => by simp only [below]
  | _, _, .bl b => by simp only [below]
  | _, _, .int i => by simp only [below]
  | _, _, .str x => by simp only [below]
  | _, _, .tup h r => by simp only [below]; exact repL_below r
  | _, _, .lst h r => by simp only [below]; exact repL_below r
  | _, _, .ro h r => by simp only [below]; exact repL_below r
  | _, _, .ref h => by simp only [below, decide_eq_true_eq]; exact (List.getElem?_eq_some_iff.mp h).1
theorem repL_below {d : Dm} : ∀ {vs : List V} {xs : List D}, RepL K H d vs xs → belowL d.m.length xs = true
  | _, _, .nil => by simp only [belowL]
  | _, _, .cons h r => by simp only [belowL, Bool.and_eq_true]; exact ⟨rep_below h, repL_below r⟩
end
theorem kv_below {d : Dm} : ∀ {vs : List (Key × V)} {xs : List (Key × D)}, RepKV K H d vs xs → (xs.all fun kv => below d.m.length kv.2) = true
  | _, _, .nil => rfl
  | _, _, .cons h r => by simp only [List.all_cons, Bool.and_eq_true]; exact ⟨rep_below h, kv_below r⟩
theorem below_kv : ∀ {vs : List (Key × V)} {xs : List (Key × D)}, RepKV K H ⟨m, f⟩ vs xs → (xs.all fun kv => below n kv.2) = true → RepKV K H ⟨m.take n, f⟩ vs xs
  | _, _, .nil, _ => .nil
  | _, _, .cons h r, e => by
    simp only [List.all_cons, Bool.and_eq_true] at e
    exact .cons (below_rep h e.1) (below_kv r e.2)
theorem srep_below {d : Dm} {a : Addr} {o : SO} (h : SRep K H d a o) : belowS d.m.length o = true := by
  cases o with
  | lst _ => obtain ⟨vs, _, h2⟩ := h; exact repL_below h2
  | dic _ => obtain ⟨vs, _, h2⟩ := h; exact kv_below h2
theorem below_srep {a : Addr} {o : SO} (h : SRep K H ⟨m, f⟩ a o) (e : belowS n o = true) : SRep K H ⟨m.take n, f⟩ a o := by
  cases o with
  | lst _ => obtain ⟨vs, h1, h2⟩ := h; exact ⟨vs, h1, belowL_rep h2 e⟩
  | dic _ => obtain ⟨vs, h1, h2⟩ := h; exact ⟨vs, h1, below_kv h2 e⟩
/-- the new part of the store is left -/
theorem rl_leave {H0 : Hp} {m0 : List Addr} {st0 : Sto} (r0 : Rl K H0 ⟨m0, f⟩ st0) (e : Ext H0 ⟨m0, f⟩ H ⟨m, f⟩) (r : Rl K H ⟨m, f⟩ st) (ok : OldOk st0 st) : m.take st0.length = m0 ∧ Rl K H ⟨m0, f⟩ (st.take st0.length) := by
  obtain ⟨t, ht⟩ := e.pre
  have ht : m = m0 ++ t := ht
  have hl0 : m0.length = st0.length := r0.len
  have hm : m.take st0.length = m0 := by rw [ht, ← hl0]; simp
  refine ⟨hm, ?_⟩
  have hl : m.length = st.length := r.len
  have hle : st0.length ≤ st.length := by rw [← hl, ht, ← hl0]; simp
  refine ⟨by rw [List.length_take]; show m0.length = _; omega, r0.nd, fun i o ho => ?_, fun a ha => ⟨(r.ff a ha).1, fun z => (r.ff a ha).2 (by show a ∈ m; rw [ht]; exact List.mem_append_left _ z)⟩⟩
  have hi : i < st0.length := by
    have := (List.getElem?_eq_some_iff.mp ho).1
    rw [List.length_take] at this; omega
  rw [List.getElem?_take_of_lt hi] at ho
  obtain ⟨a, h1, h2⟩ := r.at' i o ho
  have hb : belowS st0.length o = true := by
    rcases ok i o hi ho with z | z
    · obtain ⟨b, _, q⟩ := r0.at' i o z
      have := srep_below q
      rw [show (⟨m0, f⟩ : Dm).m.length = st0.length from hl0] at this
      exact this
    · exact z
  refine ⟨a, ?_, ?_⟩
  · show m0[i]? = some a
    rw [← hm, List.getElem?_take_of_lt hi]; exact h1
  · have q := below_srep h2 hb
    rw [hm] at q
    exact q
end
end PV
end

section
/-! The rule for a def, the rule for its call. -/
namespace PV
open PySem PySem.Spec PyProof.Rows L2
/-- a def that does what m says -/
structure FnG (P : Program) (w : World) (K : PySem.W.Frag) (mg : Str → Option Value) (base : Heap) (k : Nat) (f : Addr) (fd : FuncData) (ps : List Str) (m : Fn) : Prop where
  len : ∀ ds st, ds.length ≠ ps.length → m ds st = .bad
  run : ∀ (A : Around) (outer : List Env) (s : Shared) (H : Hp) (args : Args) (us : List Value) (vs : List V) (ds : List D) (d : Dm) (st : Sto) (Q : VK) (E : XK),
    Room k A → A.guards = some [] → Env0 P w K mg base A outer s H → BindsTo s fd args (ps.zip us) → Vals vs us → Rl K H d st → RepL K H d vs ds →
    Aft ⟨K, mg⟩ E H d (m ds st) (fun x _ H' d' => ∀ v, Rep K H' d' v x → Q v H') → codeAny (model P w) A (.call (.ref f) args) (CR (L2.CX P w) outer P w H s Q E) s
theorem FnG.mono {P : Program} {w : World} {K : PySem.W.Frag} {mg : Str → Option Value} {base : Heap} {j k : Nat} {f : Addr} {fd : FuncData} {ps : List Str} {m : Fn} (F : FnG P w K mg base j f fd ps m) (h : j ≤ k) : FnG P w K mg base k f fd ps m :=
  ⟨F.len, fun A outer s H args us vs ds d st Q E hr => F.run A outer s H args us vs ds d st Q E (hr.mono h)⟩
theorem nvr_start {K : PySem.W.Frag} {H : Hp} {d : Dm} {vs : List V} {ds : List D} {N : List Str} (r : RepL K H d vs ds) : NvR K H d (L2.start N vs) (startN N.length ds) := by
  have hl := r.length
  refine ⟨by unfold L2.start startN; simp [hl], fun i x h => ?_⟩
  unfold startN at h
  by_cases hi : i < ds.length
  · rw [List.getElem?_append_left (by simpa using hi), List.getElem?_map] at h
    cases q : ds[i]? with
    | none => rw [q] at h; cases h
    | some y =>
      rw [q] at h
      cases h
      obtain ⟨v, h1, h2⟩ := r.get q
      refine ⟨v, ?_, h2⟩
      unfold L2.start
      rw [List.getElem?_append_left (by simpa [hl] using hi), List.getElem?_map, h1]; rfl
  · rw [List.getElem?_append_right (by simpa using hi), List.getElem?_replicate] at h
    split at h <;> cases h
theorem f_take {K : PySem.W.Frag} {H : Hp} {m f : List Addr} {n : Nat} : ∀ {vs : List (Str × V)} {ds : List (Str × D)}, RepF K H ⟨m, f⟩ vs ds → (ds.all fun p => below n p.2) = true → RepF K H ⟨m.take n, f⟩ vs ds
  | _, _, .nil, _ => .nil
  | _, _, .cons h r, e => by
    simp only [List.all_cons, Bool.and_eq_true] at e
    exact .cons (below_rep h e.1) (f_take r e.2)
theorem leave_aft {K : PySem.W.Frag} {mg : Str → Option Value} {H : Hp} {d : Dm} {st : Sto} {fz : Bool} {o : Out Fl} {Q : VK} {E : XK} (r0 : Rl K H d st)
    (h : Aft ⟨K, mg⟩ E H d (leaveD fz st o) (fun x _ H' d' => ∀ v, Rep K H' d' v x → Q v H')) : AftS ⟨K, mg⟩ (fun c dx _ H => E c dx H) { nx := fun _ H' => Q .non H', rt := Q } H d o := by
  obtain ⟨m0, f⟩ := d
  cases o with
  | bad => exact h
  | exc x st' => exact h
  | ok fl st' =>
    rintro H' ⟨m, f'⟩ e r
    obtain rfl : f' = f := e.ff
    have back : ∀ (c : m.take st.length = m0 ∧ Rl K H' ⟨m0, f'⟩ (st'.take st.length)), Ext H ⟨m0, f'⟩ H' ⟨m0, f'⟩ := fun c => ⟨e.keep, ⟨[], by simp⟩, fun _ h n => absurd h n, rfl⟩
    cases fl with
    | bk nv => exact False.elim h
    | ct nv => exact False.elim h
    | nx nv =>
      intro σ' _
      cases fz with
      | false => exact h H' ⟨m, f'⟩ e r .non .non
      | true =>
        unfold leaveD at h
        simp only [if_true] at h
        split at h
        · rename_i ok
          have c := rl_leave r0 e r ok.1
          exact h H' ⟨m0, f'⟩ (back c) c.2 .non .non
        · exact False.elim h
    | rt x =>
      intro v hv
      cases fz with
      | false => exact h H' ⟨m, f'⟩ e r v hv
      | true =>
        unfold leaveD at h
        simp only [if_true] at h
        cases q : thaw st' st.length 40 x with
        | none => rw [q] at h; exact False.elim h
        | some y =>
          rw [q] at h
          simp only at h
          split at h
          · rename_i ok
            have c := rl_leave r0 e r ok.1
            have t := thaw_rep r 40 v x y hv q
            rw [c.1] at t
            exact h H' ⟨m0, f'⟩ (back c) c.2 v t
          · exact False.elim h
    | ex x nv =>
      intro σ' cls dx _ rx
      cases fz with
      | false => exact h H' ⟨m, f'⟩ cls dx e r rx
      | true =>
        unfold leaveD at h
        simp only [if_true] at h
        split at h
        · rename_i ok
          have c := rl_leave r0 e r ok.1.1
          refine h H' ⟨m0, f'⟩ cls dx (back c) c.2 ?_
          obtain ⟨C, h1, h2, h3⟩ := rx
          refine ⟨C, h1, h2, ?_⟩
          have hb := ok.2
          cases hx : x.fs with
          | none =>
            rw [hx] at h3
            cases dx with
            | none => trivial
            | some _ => exact h3
          | some fs =>
            rw [hx] at h3 hb
            cases dx with
            | none => exact False.elim h3
            | some a =>
              obtain ⟨ws, h4, h5, h6⟩ := h3
              have ho := off_take (n := st.length) h5
              have h7 := f_take (n := st.length) h6 hb
              rw [c.1] at ho h7
              exact ⟨ws, h4, ho, h7⟩
        · exact False.elim h
/-- the context of a def's body -/
abbrev BX (P : Program) (w : World) (K : PySem.W.Frag) (mg : Str → Option Value) (base : Heap) (N : List Str) (qual : Str) (sd : Stmt) (f : Addr) (cdv : Value) (A : Around) (outer : List Env) (s : Shared) (H : Hp) (E : XK) : Cx :=
  cxOf (L2.CX P w) P w K mg base N qual (defScope sd) f cdv A outer s H E
abbrev WE' (E : XK) : WX' := fun c dx _ H => E c dx H
/-- THE RULE for a def -/
theorem FnG.of {P : Program} {w : World} {K : PySem.W.Frag} {mg : Str → Option Value} {base : Heap} {x qual : Str} {sd : Stmt} {f : Addr} {fd : FuncData} {N ps : List Str} {k : Nat} {body : Ts} (fz : Bool) (F : Fun K x qual sd f fd) (S : FnScope N ps (defScope sd))
    (hbody : ∀ (cdv : Value) (A : Around) (outer : List Env) (s : Shared) (H : Hp) (E : XK), Room k (A.deeper (envOfC qual (defScope sd) s.heap.objs.size f cdv)) → A.guards = some [] →
      Takes (BX P w K mg base N qual sd f cdv A outer s H E) (WE' E) → PassesOwn (model P w) (BX P w K mg base N qual sd f cdv A outer s H E).A (BX P w K mg base N qual sd f cdv A outer s H E).env (BX P w K mg base N qual sd f cdv A outer s H E).xe →
      PSs (BX P w K mg base N qual sd f cdv A outer s H E) (defBody sd) (tIS ⟨K, mg⟩ (WE' E) body)) : FnG P w K mg base (k + 1) f fd ps (runF fz ps.length N.length body) := by
  refine ⟨fun ds st h => by unfold runF; rw [if_neg h], fun A outer s H args us vs ds d st Q E hr hg e0 hb r rl rr h => ?_⟩
  obtain ⟨oc, od, kV, doc, pm, an, cdv, ct, osl, rfl, lk, hcd⟩ := F.ex
  have KX : K.In s.heap := e0.mod.kin.keeps fun b o e => (e0.bs b o e).1
  have lim : s.heap.NoLimit := e0.mod.nolimit.keeps fun b o e => (e0.bs b o e).1
  have hdl : ds.length = ps.length := by
    by_cases z : ds.length = ps.length
    · exact z
    · unfold runF at h
      rw [if_neg z] at h
      exact False.elim h
  have hl : vs.length = ps.length := by rw [rr.length]; exact hdl
  have hkind : ∀ y ∈ ps.zip us, (defScope sd).names.lookup y.1 = some .local ∨ ((defScope sd).names.lookup y.1 = some .cell ∧ ((cellsFrom (s.heap.objs.size + 1) (defScope sd).names []).lookup y.1).isSome = true) := fun y hy => by
    rcases S.par y.1 (List.of_mem_zip hy).1 with q | q
    · exact .inl q
    · exact .inr ⟨q, PySem.W.cellsFrom_some _ _ _ (.inl q)⟩
  refine codeAny_call_function hr.depth (KX _ _ lk) rfl S.co S.gen rfl (PySem.W.codeRec_of KX hcd) (hb _ _ _ _ ?_)
  refine wpAny_newFunctionEnv_cells S.kind hkind fun env he s1 x1 => ?_
  subst he
  refine ⟨lim.keeps x1.toInCall.keep, codeAny_func ?_⟩
  have ht := hbody cdv A outer s H E (hr.deeper _) hg (L2.takes_of rfl rfl rfl rfl) (L2.passes_of rfl)
  have I : Inv (cxOf (L2.CX P w) P w K mg base N qual (defScope sd) f cdv A outer s H E) [] (L2.start N vs) H s1 := inv_start S hr.hd e0 hl r x1
  unfold runF at h
  rw [if_pos hdl] at h
  refine wpAny_mono (ht.run [] s1 (L2.start N vs) H { nx := fun _ H' => Q .non H', rt := Q } I ⟨d, startN N.length ds, st, rl, nvr_start rr, leave_aft rl h⟩) (fun fl s' hs => ?_) fun e s' hs => hs
  have fin : ∀ {σ' : L2.St} {H' : Hp} {v : V} {u : Value}, Inv (cxOf (L2.CX P w) P w K mg base N qual (defScope sd) f cdv A outer s H E) [] σ' H' s' → RelV v u → Q v H' → CE outer P w H s Q u s' :=
    fun {σ' H' v u} J rv q => ⟨v, H', J.os, J.bare, J.base, J.hok, rv, q⟩
  cases fl with
  | brk =>
    obtain ⟨_, _, _, q⟩ := hs
    exact False.elim q
  | cont =>
    obtain ⟨_, _, _, q⟩ := hs
    exact False.elim q
  | next =>
    obtain ⟨σ', H', J, q⟩ := hs
    exact fin (v := V.non) (u := Value.none) J rfl q
  | ret u =>
    obtain ⟨v, σ', H', J, rv, q⟩ := hs
    exact fin J rv q

/-! ### calls -/
def cCall (m : Fn) (tr : Nv → M (List D)) : Tm := fun nv => bnd (tr nv) fun xs => m xs
section
variable {X : Cx} {W : WX'} {k : Nat} {f : Addr} {fd : FuncData} {ps : List Str} {m : Fn} {x : Str} {p pos : Pos} {e : Expr} {es : List Expr} {tr : Nv → M (List D)}
theorem se_call (G : FnG X.prog X.w X.K X.mg X.base k f fd ps m) (hr : Room k X.A) (hgu : X.A.guards = some []) (tk : Takes X W) (hg : Gl X x) (hm : X.mg x = some (.ref f)) (hk : PySem.W.keepIn X.K (.ref f) = true) (hb : Binds X.K fd ps [])
    (ha : PA X (e :: es) (tIA X.fx W tr)) (hdb : (x == ("__debug__" : Str)) = false := by decide) (he : starEach (e :: es) X.env = (false, eval e X.env) :: starEach es X.env := by rfl) (hpl : (backTo pos (starEach es X.env)).any (·.1) = false := by rfl) :
    PE X (.Call (.Name x p) (e :: es) [] pos) (tI X.fx W (cCall m tr)) := by
  refine ⟨fun pins s σ H Q I h => ?_⟩
  obtain ⟨d, nv, st, r0, n0, q⟩ := h
  refine wpAny_Call_Name_kw (ld_glob I hg hm ?_ hdb)
  refine PySem.W.callWith_K (h₀ := X.base) I.ok.mod.kin hk (thn (ha.run pos pins s σ H (fun vs H1 => ∃ d1 st1 xs, RepL X.K H1 d1 vs xs ∧ Rl X.K H1 d1 st1 ∧ Aft X.fx (Wat W σ) H1 d1 (m xs st1) fun x _ H' d' => ∀ v, Rep X.K H' d' v x → Q v H') I
    ((rdg_bnd r0 n0 q).mono fun xs st1 H1 d1 q1 vs hv => ⟨d1, st1, xs, hv, q1.1, q1.2.2.2⟩)) fun us s1 ⟨vs, H1, I1, r, d1, st1, xs, hv, r1, q1⟩ => ⟨I1.kIn, ?_⟩) he hpl
  have hl : us.length = ps.length := by
    by_cases z : xs.length = ps.length
    · rw [← r.length, hv.length]; exact z
    · rw [G.len xs st1 z] at q1
      exact False.elim q1
  have b := hb s1 us I1.kIn (by rw [List.append_nil]; exact hl)
  rw [List.append_nil] at b
  refine wpAny_call (codeAny_mono (G.run X.A X.stack s1 H1 ⟨us, []⟩ us vs xs d1 st1 Q (WE W σ) hr hgu I1.env0 b r r1 hv q1) fun r s' hq => ?_)
  cases r with
  | error e => exact passAt tk σ pins H1 s1 e s' I1 hq
  | ok fl =>
    cases fl with
    | ret u => exact I1.after hq
    | next => exact False.elim hq
    | brk => exact False.elim hq
    | cont => exact False.elim hq
end
end PV
end

section
/-! The end of a law row, from what the law's own def does of the script. -/
namespace PV
open PySem PySem.Spec PyProof.Rows L2
theorem _root_.L2.Room.u66 {k : Nat} {A : Around} (r : Room k A) : A.units + 66 < cLine := by
  have := r.un
  omega
/-- a level that is not above -/
theorem lev_le {j b n : Nat} (h : j ≤ b) : j ≤ Nat.add b n := Nat.le_trans h (Nat.le_add_right b n)
theorem lev_self {b n : Nat} : b + n ≤ Nat.add b n := Nat.le_refl _
/-- mono_to -/
theorem b_len : bootBuiltins "len" = some (.builtin "len") := by decide +kernel
theorem b_isinstance : bootBuiltins "isinstance" = some (.builtin "isinstance") := by decide +kernel
theorem b_abs : bootBuiltins "abs" = some (.builtin "abs") := by decide +kernel
theorem b_all : bootBuiltins "all" = some (.builtin "all") := by decide +kernel
theorem b_any : bootBuiltins "any" = some (.builtin "any") := by decide +kernel
theorem b_repr : bootBuiltins "repr" = some (.builtin "repr") := by decide +kernel
theorem b_divmod : bootBuiltins "divmod" = some (.builtin "divmod") := by decide +kernel
theorem b_max : bootBuiltins "max" = some (.builtin "max") := by decide +kernel
theorem b_sum : bootBuiltins "sum" = some (.builtin "sum") := by decide +kernel
theorem b_sorted : bootBuiltins "sorted" = some (.builtin "sorted") := by decide +kernel
theorem b_int : bootBuiltins "int" = some (.type "int") := by decide +kernel
theorem b_bool : bootBuiltins "bool" = some (.type "bool") := by decide +kernel
theorem b_str : bootBuiltins "str" = some (.type "str") := by decide +kernel
theorem b_list : bootBuiltins "list" = some (.type "list") := by decide +kernel
theorem b_tuple : bootBuiltins "tuple" = some (.type "tuple") := by decide +kernel
theorem b_dict : bootBuiltins "dict" = some (.type "dict") := by decide +kernel
theorem b_set : bootBuiltins "set" = some (.type "set") := by decide +kernel
theorem len_a1 {ta : Tm} : ∀ nv st xs st', aCons ta aNil nv st = .ok xs st' → xs.length = 1 := fun nv st xs st' h => by
  unfold aCons aNil bnd ret at h
  cases e : ta nv st with
  | ok x s1 => rw [e] at h; simp at h; rw [← h.1]; rfl
  | exc _ _ => rw [e] at h; cases h
  | bad => rw [e] at h; cases h
theorem len_a2 {ta tb : Tm} : ∀ nv st xs st', aCons ta (aCons tb aNil) nv st = .ok xs st' → xs.length = 2 := fun nv st xs st' h => by
  unfold aCons aNil bnd ret at h
  cases e : ta nv st with
  | ok x s1 =>
    rw [e] at h
    simp only at h
    cases e2 : tb nv s1 with
    | ok y s2 => rw [e2] at h; simp at h; rw [← h.1]; rfl
    | exc _ _ => rw [e2] at h; cases h
    | bad => rw [e2] at h; cases h
  | exc _ _ => rw [e] at h; cases h
  | bad => rw [e] at h; cases h
theorem FnG.nothing {P : Program} {w : World} {K : PySem.W.Frag} {mg : Str → Option Value} {base : Heap} {k : Nat} {f : Addr} {fd : FuncData} {ps : List Str} : FnG P w K mg base k f fd ps (fun _ _ => .bad) :=
  ⟨fun _ _ _ => rfl, fun _ _ _ _ _ _ _ _ _ _ _ _ _ _ _ _ _ _ _ h => False.elim h⟩
theorem ints_rep {K : PySem.W.Frag} {H : Hp} {d : Dm} : ∀ ns : List Int, RepL K H d (ns.map V.int) (ns.map D.int)
  | [] => .nil
  | n :: r => .cons (.int n) (ints_rep r)
/-- the law's def called upon the script -/
theorem law_callG {P : Program} {w : World} {K : PySem.W.Frag} {mg mb : Str → Option Value} {k : Nat} {fa a : Addr} {fd : FuncData} {x : Str} {m : Fn} {s1 : Shared} {us : List Value} {ns : List Int}
    (KX : K.In s1.heap) (hns : s1.heap.Ns mainGlobals mg) (hb : s1.heap.Ns builtinsNs mb) (hbb : ∀ x : Str, x ≠ "__name__" → mb x = bootBuiltins x) (hlim : s1.heap.NoLimit) (hg : s1.gens = #[])
    (ha : s1.heap.get? a = some { cls := .type "list", data := .seq us.toArray }) (hi : IntsAre us ns) (hl : ns.length ≤ sizeLine) (hr : Room k callerA)
    (F : ∀ base : Heap, K.In base → base.Ns mainGlobals mg → FnG P w K mg base k fa fd [x] m) (hbind : ∀ (s : Shared) (u : Value), BindsTo s fd ⟨[u], []⟩ [(x, u)]) (hm : ∃ st, m [.ro (ns.map .int)] [] = .ok (.bl true) st) :
    codeAny (model P w) callerA (.call (.ref fa) ⟨[.ref a], []⟩) (fun r s' => r = .ok (.ret (.bool true)) ∧ OldK s1.heap s'.heap ∧ s'.os = s1.os ∧ AllBare s'.gens) s1 := by
  have rv := vals_ints hi
  have main : ∀ H : Hp, (∀ b, H b = none ∨ ∃ o ys, H b = some (.frz o (.lst ys))) → FzR K H ⟨[], []⟩ a (ns.map V.int) → HOk P w H s1.heap → (∀ b, H b ≠ none → b = a) → (H a ≠ none → K.lookup a = none) →
      codeAny (model P w) callerA (.call (.ref fa) ⟨[.ref a], []⟩) (fun r s' => r = .ok (.ret (.bool true)) ∧ OldK s1.heap s'.heap ∧ s'.os = s1.os ∧ AllBare s'.gens) s1 := fun H hO hS ok hA hK => by
    -- the ground: all but the script, where it is tracked
    have ground : ∀ {b : Addr} {o : Obj}, s1.heap.get? b = some o → H b = none → (hidT s1.heap H).get? b = some o := fun e n => hidT_get e n
    have dictFree : ∀ {b : Addr} {o : Obj} {es : Array DictEntry} {ep : Nat}, s1.heap.get? b = some o → o.data = .dict es ep → H b = none := fun {b o es ep} e dt => by
      by_cases z : H b = none
      · exact z
      · obtain rfl := hA b z
        rw [ha] at e
        cases e
        cases (show Data.seq us.toArray _ = Data.dict es ep from dt)
    have nsG : ∀ {b : Addr} {g : Str → Option Value}, s1.heap.Ns b g → (hidT s1.heap H).Ns b g := fun {b g} h => by
      obtain ⟨o, es, ep, e, dt, r⟩ := h
      exact ⟨o, es, ep, ground e (dictFree e dt), dt, r⟩
    have inG : K.In (hidT s1.heap H) := fun b o e => ground (KX b o e) (by
      by_cases z : H b = none
      · exact z
      · obtain rfl := hA b z
        rw [hK z] at e
        cases e)
    have md : Mod K mg (hidT s1.heap H) := ⟨inG, nsG hns, ⟨mb, nsG hb, hbb⟩, by obtain ⟨mc, h1, h2⟩ := hlim; exact ⟨mc, nsG h1, h2⟩⟩
    have e0 : Env0 P w K mg (hidT s1.heap H) callerA [] s1 H := ⟨rfl, md, fun b o e => of_hidT e, Nat.le_of_eq (hidT_size _ _), trivial, fun b hb => absurd (show b ∈ ([] : List Addr) from hb) (by simp), ok, .of_eq hg⟩
    obtain ⟨st, hst⟩ := hm
    have rl : Rl K H ⟨[], []⟩ [] := ⟨rfl, List.nodup_nil, fun n o h => by simp at h, fun a h => absurd h (by simp)⟩
    refine codeAny_mono ((F _ inG (nsG hns)).run callerA [] s1 H ⟨[.ref a], []⟩ [.ref a] [.ref a] [.ro (ns.map .int)] ⟨[], []⟩ [] (fun v _ => v = .bl true) (fun _ _ _ => False) hr rfl e0 (hbind s1 (.ref a)) (.cons rfl .nil) rl (.cons (.ro hS (ints_rep ns)) .nil) ?_) fun r s' h => ?_
    · rw [hst]
      exact fun H' d' _ _ v hv => hv.bl_inv
    · cases r with
      | error e =>
        obtain ⟨_, _, _, _, _, _, _, _, _, _, _, _, z⟩ := h
        exact z.elim
      | ok fl =>
        cases fl with
        | ret u =>
          obtain ⟨v, H', os, bare, un, ok', r', q⟩ := h
          obtain rfl : v = .bl true := q
          obtain rfl : u = Value.bool true := r'
          refine ⟨rfl, OldK.of_keep fun b o e => ?_, os, bare⟩
          rcases hO b with z | ⟨ob, ys, z⟩
          · exact un.keep b o e z (by intro y; exact absurd (show b ∈ ([] : List Addr) from y) (by simp)) (by simp)
          · have e1 := (ok b _ z).1
            have e2 := (ok' b _ (un.frzs b ob _ z)).1
            rw [e] at e1
            cases e1
            exact e2
        | next => exact False.elim h
        | brk => exact False.elim h
        | cont => exact False.elim h
  cases hk : K.lookup a with
  | some o =>
    have e := KX a o hk
    rw [ha] at e
    cases e
    refine main (fun _ => none) (fun _ => .inl rfl) (.inr fun H' => .inr ⟨_, us.toArray, _, hk, rfl, rfl, rfl, by rw [List.size_toArray, ← hi.length] at *; exact hl, by simpa using rv⟩) (fun b u z => by cases (show (none : Option HO) = some u from z)) (fun b z => absurd rfl z) fun z => absurd rfl z
  | none =>
    have at_a : (fun b => if b = a then some (HO.frz { cls := .type "list", data := .seq us.toArray } (.lst (ns.map V.int))) else none) a = some (HO.frz { cls := .type "list", data := .seq us.toArray } (.lst (ns.map V.int))) := if_pos rfl
    refine main (fun b => if b = a then some (.frz { cls := .type "list", data := .seq us.toArray } (.lst (ns.map V.int))) else none) (fun b => ?_) (.inl ⟨.inr ⟨_, at_a⟩, by simp [Off]⟩) (fun b u z => ?_) (fun b z => ?_) fun _ => hk
    · by_cases hb : b = a
      · exact .inr ⟨_, _, if_pos hb⟩
      · exact .inl (if_neg hb)
    · by_cases hb : b = a
      · subst hb
        have z' := at_a.symm.trans z
        cases z'
        exact ⟨ha, by rw [List.length_map]; exact hl, us, _, rv, ha⟩
      · cases (if_neg hb).symm.trans z
    · by_cases hb : b = a
      · exact hb
      · exact absurd (if_neg hb) z
theorem walk_ofG {l : PySem.W.OpenLaw} {n k : Nat} {q : Program} {loose : List Str} {XP : (Str → Option Value) → Heap → Prop} {YP : World → Heap → Prop} {d : DefRec} {K : Params → PySem.W.Frag} {x : Str} {m : Fn}
    (hn : l.most = some n) (hn2 : n ≤ sizeLine) (hdf : d.params.defaults = []) (hr : Room k callerA) (hY : ∀ (w : World) (h : Heap), YP w h → (K w.params).In h)
    (F : ∀ (w : World) (mg : Str → Option Value) (fa : Addr) (h : Heap), (K w.params).In h → h.Ns mainGlobals mg → mg d.name = some (.ref fa) →
      ∃ fd : FuncData, (∀ (s : Shared) (u : Value), BindsTo s fd ⟨[u], []⟩ [(x, u)]) ∧ ∀ base : Heap, (K w.params).In base → base.Ns mainGlobals mg → FnG l.prog w (K w.params) mg base k fa fd [x] m)
    (hm : ∀ ns : List Int, ns.length ≤ n → (∀ z ∈ ns, Builtin.Int.intBits z ≤ 1048576) → ∃ st, m [.ro (ns.map .int)] [] = .ok (.bl true) st) : PySem.W.WalkO q loose XP YP l.row.toRowW d [] (fun f vs => PySem.call f vs) := by
  refine Att.attach_callB hn hdf fun w s₀ s1 mg mb fa o pm cd doc a us ns G Y ho hd hcd hmg hobj hints hlen hbits hg => ?_
  obtain ⟨fd, hbind, hF⟩ := F w mg fa _ (hY w _ Y) G.T.g hmg
  exact law_callG (hY w _ Y) G.T.g G.T.b G.T.builtins G.T.nolimit hg hobj hints (Nat.le_trans hlen hn2) hr hF hbind (hm ns hlen hbits)
end PV
end

section
/-! What holds behind a plain function: read from the outside in, the first part first. -/
namespace PV
open L2
/-- so that what follows is left alone until it's reached -/
abbrev Dep {α : Type} (_ : α → Sto → Prop) (_ : Exn → Sto → Prop) : Type := Unit
def wp {α : Type} (P : α → Sto → Prop) (E : Exn → Sto → Prop) (_ : Dep P E) (o : Out α) : Prop := match o with
  | .ok a st => P a st
  | .exc x st => E x st
  | .bad => False
abbrev U {α : Type} {P : α → Sto → Prop} {E : Exn → Sto → Prop} : Dep P E := ()
abbrev DepO {α : Type} (_ : α → Prop) : Type := Unit
def wo {α : Type} (P : α → Prop) (_ : DepO P) (o : Option α) : Prop := match o with
  | some a => P a
  | none => False
abbrev UO {α : Type} {P : α → Prop} : DepO P := ()
abbrev DepF (_ : Nv → Prop) (_ : Fl → Prop) : Type := Unit
/-- a statement's end: it goes on, or not -/
def fl (P : Nv → Prop) (R : Fl → Prop) (_ : DepF P R) (f : Fl) : Prop := match f with
  | .nx nv => P nv
  | f => R f
abbrev DepB (_ _ : Prop) : Type := Unit
def wb (A B : Prop) (_ : DepB A B) (b : Bool) : Prop := match b with
  | true => A
  | false => B
abbrev DepP (_ : Prop) : Type := Unit
/-- a condition, then the rest -/
def wc (A : Prop) (_ : DepP A) (c : Prop) : Prop := c ∧ A
section
variable {α β : Type} {P : α → Sto → Prop} {E : Exn → Sto → Prop} {u : Dep P E} {st : Sto} {nv : Nv}
theorem w_ok {a : α} : wp P E u (.ok a st) = P a st := rfl
theorem w_exc {x : Exn} : wp P E u (.exc x st) = E x st := rfl
theorem w_bad : wp P E u .bad = False := rfl
theorem w_bnd {t : M β} {f : β → M α} : wp P E u (bnd t f st) = wp (fun a s => wp P E () (f a s)) E () (t st) := by
  unfold bnd wp
  cases t st <;> rfl
theorem w_ret {a : α} : wp P E u (PV.ret a st) = P a st := rfl
theorem w_badm : wp P E u (PV.bad st) = False := rfl
theorem w_lift {o : Option α} : wp P E u (lift o st) = wo (fun a => P a st) () o := by
  cases o <;> rfl
theorem o_some {a : α} {Q : α → Prop} {v : DepO Q} : wo Q v (some a) = Q a := rfl
theorem o_none {Q : α → Prop} {v : DepO Q} : wo Q v (none : Option α) = False := rfl
theorem o_map {f : β → α} {o : Option β} {Q : α → Prop} {v : DepO Q} : wo Q v (o.map f) = wo (fun a => Q (f a)) () o := by cases o <;> rfl
theorem o_ite {c : Prop} [Decidable c] {a : α} {Q : α → Prop} {v : DepO Q} : wo Q v (if c then some a else none) = wc (Q a) () c := by
  by_cases h : c
  · rw [if_pos h]; exact propext ⟨fun q => ⟨h, q⟩, fun q => q.2⟩
  · rw [if_neg h]; exact propext ⟨fun q => q.elim, fun q => h q.1⟩
theorem c_true {A : Prop} {v : DepP A} : wc A v True = A := propext ⟨fun h => h.2, fun h => ⟨True.intro, h⟩⟩
theorem b_true {A B : Prop} {v : DepB A B} : wb A B v true = A := rfl
theorem b_false {A B : Prop} {v : DepB A B} : wb A B v false = B := rfl
theorem b_dec {A B c : Prop} [Decidable c] {v : DepB A B} : wb A B v (decide c) = ((c → A) ∧ (¬ c → B)) := by
  by_cases h : c
  · rw [decide_eq_true h]; exact propext ⟨fun q => ⟨fun _ => q, fun n => absurd h n⟩, fun q => q.1 h⟩
  · rw [decide_eq_false h]; exact propext ⟨fun q => ⟨fun n => absurd n h, fun _ => q⟩, fun q => q.2 h⟩
theorem f_nx {Q : Nv → Prop} {R : Fl → Prop} {v : DepF Q R} : fl Q R v (.nx nv) = Q nv := rfl
theorem f_rt {Q : Nv → Prop} {R : Fl → Prop} {v : DepF Q R} {x : D} : fl Q R v (.rt x) = R (.rt x) := rfl
theorem f_bk {Q : Nv → Prop} {R : Fl → Prop} {v : DepF Q R} : fl Q R v (.bk nv) = R (.bk nv) := rfl
theorem f_ct {Q : Nv → Prop} {R : Fl → Prop} {v : DepF Q R} : fl Q R v (.ct nv) = R (.ct nv) := rfl
theorem f_ex {Q : Nv → Prop} {R : Fl → Prop} {v : DepF Q R} {x : Exn} : fl Q R v (.ex x nv) = R (.ex x nv) := rfl
theorem wp_mono {Q : α → Sto → Prop} {F : Exn → Sto → Prop} {v : Dep Q F} {o : Out α} (h : wp P E u o) (hp : ∀ a s, P a s → Q a s) (he : ∀ x s, E x s → F x s) : wp Q F v o := by
  cases o with
  | ok a s => exact hp a s h
  | exc x s => exact he x s h
  | bad => exact h
theorem wp_cong {Q : α → Sto → Prop} {v : Dep Q E} {o : Out α} (h : ∀ a s, P a s = Q a s) : wp P E u o = wp Q E v o := by
  cases o with
  | ok a s => exact h a s
  | exc x s => rfl
  | bad => rfl
/-- what is shown by equation -/
theorem wp_eq {o : Out α} {a : α} {s : Sto} (h : o = .ok a s) (q : P a s) : wp P E u o := by rw [h]; exact q
end
theorem wc_i {A c : Prop} {v : DepP A} (h : c) (q : A) : wc A v c := ⟨h, q⟩
theorem wb_i {A B : Prop} {v : DepB A B} {b : Bool} (h : b = true → A) (q : b = false → B) : wb A B v b := by
  cases b with
  | true => exact h rfl
  | false => exact q rfl
theorem wo_i {α : Type} {Q : α → Prop} {v : DepO Q} {o : Option α} {a : α} (h : o = some a) (q : Q a) : wo Q v o := by rw [h]; exact q
/-! expressions -/
section
variable {α : Type} {P : α → Sto → Prop} {E : Exn → Sto → Prop} {u : Dep P E} {st : Sto} {nv : Nv}
variable {R : D → Sto → Prop} {v : Dep R E} {L : List D → Sto → Prop} {vL : Dep L E} {B : Bool → Sto → Prop} {vB : Dep B E}
theorem w_var {i : Nat} : wp R E v (cVar i nv st) = wo (fun o => wo (fun x => R x st) () o) () nv[i]? := by
  unfold cVar wo wp
  cases nv[i]? with
  | none => rfl
  | some o => cases o <;> rfl
theorem w_c {x : D} : wp R E v (cC x nv st) = R x st := rfl
variable {ta tb tc : Tm} {tr : Nv → M (List D)} {f2 : Sto → D → D → Option α} {f1 : Sto → D → Option α} {fn : Sto → List D → Option α}
theorem w_c2 : wp P E u (c2 f2 ta tb nv st) = wp (fun x s1 => wp (fun y s2 => wo (fun z => P z s2) () (f2 s2 x y)) E () (tb nv s1)) E () (ta nv st) := by
  exact (w_bnd).trans (wp_cong fun x s1 => (w_bnd).trans (wp_cong fun y s2 => w_lift))
theorem w_c1 : wp P E u (c1 f1 ta nv st) = wp (fun x s1 => wo (fun z => P z s1) () (f1 s1 x)) E () (ta nv st) := by
  exact (w_bnd).trans (wp_cong fun x s1 => w_lift)
theorem w_cN : wp P E u (cN fn tr nv st) = wp (fun x s1 => wo (fun z => P z s1) () (fn s1 x)) E () (tr nv st) := by
  exact (w_bnd).trans (wp_cong fun x s1 => w_lift)
theorem w_nil : wp L E vL (aNil nv st) = L [] st := rfl
theorem w_cons : wp L E vL (aCons ta tr nv st) = wp (fun x s1 => wp (fun xs s2 => L (x :: xs) s2) E () (tr nv s1)) E () (ta nv st) := by
  exact (w_bnd).trans (wp_cong fun x s1 => (w_bnd).trans (wp_cong fun y s2 => rfl))
theorem w_ifc {c : Prop} [Decidable c] {t : M α} : wp P E u ((if c then t else PV.bad) st) = wc (wp P E () (t st)) () c := by
  by_cases h : c
  · rw [if_pos h]; exact propext ⟨fun q => ⟨h, q⟩, fun q => q.2⟩
  · rw [if_neg h]; exact propext ⟨fun q => q.elim, fun q => h q.1⟩
theorem w_tup : wp R E v (cTup tr nv st) = wp (fun xs s1 => wc (R (.tup xs) s1) () (xs.length ≤ PySem.sizeLine)) E () (tr nv st) := by
  exact (w_bnd).trans (wp_cong fun x s1 => w_ifc)
theorem w_lst : wp L E vL (cLst tr nv st) = wp (fun xs s1 => wc (L xs s1) () (xs.length ≤ PySem.sizeLine)) E () (tr nv st) := by
  exact (w_bnd).trans (wp_cong fun x s1 => w_ifc)
theorem w_frz : wp R E v (frz tr nv st) = wp (fun xs s1 => R (.lst xs) s1) E () (tr nv st) := by
  exact (w_bnd).trans (wp_cong fun x s1 => rfl)
theorem w_own : wp R E v (own tr nv st) = wp (fun xs s1 => R (.ref s1.length) (s1 ++ [.lst xs])) E () (tr nv st) := by
  exact (w_bnd).trans (wp_cong fun x s1 => rfl)
theorem w_call {m : Fn} : wp R E v (cCall m tr nv st) = wp (fun xs s1 => wp R E () (m xs s1)) E () (tr nv st) := by
  exact w_bnd
variable {O : Option Int → Sto → Prop} {vO : Dep O E}
theorem w_no : wp O E vO (cNo nv st) = O none st := rfl
def intD : D → Option Int
  | .int i => some i
  | _ => none
theorem intD_int {i : Int} : intD (.int i) = some i := rfl
theorem w_part : wp O E vO (cPart ta nv st) = wp (fun x s1 => wo (fun i => O (some i) s1) () (intD x)) E () (ta nv st) := by
  exact (w_bnd).trans (wp_cong fun x s1 => by cases x <;> rfl)
theorem w_sl {f : Sto → D → Option Int → Option Int → Option α} {tl th : Nv → M (Option Int)} :
    wp P E u (cSl f ta tl th nv st) = wp (fun x s1 => wp (fun l s2 => wp (fun h s3 => wo (fun z => P z s3) () (f s3 x l h)) E () (th nv s2)) E () (tl nv s1)) E () (ta nv st) := by
  exact (w_bnd).trans (wp_cong fun x s1 => (w_bnd).trans (wp_cong fun y s2 => (w_bnd).trans (wp_cong fun z s3 => w_lift)))
def boolD : D → Option Bool
  | .bl b => some b
  | _ => none
theorem boolD_bl {b : Bool} : boolD (.bl b) = some b := rfl
theorem w_tB : wp B E vB (tB' ta nv st) = wp (fun x s1 => wo (fun b => B b s1) () (boolD x)) E () (ta nv st) := by
  exact (w_bnd).trans (wp_cong fun x s1 => by cases x <;> rfl)
variable {t s : Nv → M Bool}
theorem w_ifb {b : Bool} {m n : M α} : wp P E u ((if b = true then m else n) st) = wb (wp P E () (m st)) (wp P E () (n st)) () b := by
  cases b <;> rfl
theorem w_tAnd : wp B E vB (tAnd' t s nv st) = wp (fun b s1 => wb (wp B E () (s nv s1)) (B false s1) () b) E () (t nv st) := by
  exact (w_bnd).trans (wp_cong fun x s1 => w_ifb)
theorem w_tOr : wp B E vB (tOr' t s nv st) = wp (fun b s1 => wb (B true s1) (wp B E () (s nv s1)) () b) E () (t nv st) := by
  exact (w_bnd).trans (wp_cong fun x s1 => w_ifb)
theorem w_tNot : wp B E vB (tNot' t nv st) = wp (fun b s1 => B (!b) s1) E () (t nv st) := by
  exact (w_bnd).trans (wp_cong fun x s1 => rfl)
theorem w_tYes : wp B E vB (tYes' nv st) = B true st := rfl
theorem w_vAnd : wp R E v (vAnd ta tb nv st) = wp (fun x s1 => wo (fun b => wb (wp R E () (tb nv s1)) (R (.bl false) s1) () b) () (boolD x)) E () (ta nv st) := by
  refine (w_bnd).trans (wp_cong fun x s1 => ?_)
  cases x with
  | bl b => cases b <;> rfl
  | _ => rfl
theorem w_vOr : wp R E v (vOr ta tb nv st) = wp (fun x s1 => wo (fun b => wb (R (.bl true) s1) (wp R E () (tb nv s1)) () b) () (boolD x)) E () (ta nv st) := by
  refine (w_bnd).trans (wp_cong fun x s1 => ?_)
  cases x with
  | bl b => cases b <;> rfl
  | _ => rfl
theorem w_vNot : wp R E v (vNot ta nv st) = wp (fun x s1 => wo (fun b => R (.bl (!b)) s1) () (boolD x)) E () (ta nv st) := by
  exact (w_bnd).trans (wp_cong fun x s1 => by cases x <;> rfl)
theorem w_if : wp R E v (cIf t ta tb nv st) = wp (fun b s1 => wb (wp R E () (ta nv s1)) (wp R E () (tb nv s1)) () b) E () (t nv st) := by
  exact (w_bnd).trans (wp_cong fun x s1 => w_ifb)
variable {Pp : List (D × D) → Sto → Prop} {vp : Dep Pp E}
theorem w_pNil : wp Pp E vp (pNil nv st) = Pp [] st := rfl
theorem w_pCons {tp : Nv → M (List (D × D))} : wp Pp E vp (pCons ta tb tp nv st) = wp (fun x s1 => wp (fun y s2 => wp (fun xs s3 => Pp ((x, y) :: xs) s3) E () (tp nv s2)) E () (tb nv s1)) E () (ta nv st) := by
  exact (w_bnd).trans (wp_cong fun x s1 => (w_bnd).trans (wp_cong fun y s2 => (w_bnd).trans (wp_cong fun z s3 => rfl)))
theorem w_dict {tp : Nv → M (List (D × D))} : wp R E v (cDict tp nv st) = wp (fun ps s1 => wo (fun ks => wc (R (.ref s1.length) (s1 ++ [.dic (mergeD [] ks)])) () (ps.length ≤ 15)) () (keysP ps)) E () (tp nv st) := by
  refine (w_bnd).trans (wp_cong fun ps s1 => ?_)
  cases keysP ps with
  | none => rfl
  | some ks => exact w_ifc
theorem w_lc {vs : List Nat} {src : Nv → M (List D)} {g : Tg} {tt : Nv → M Bool} {te : Tm} : wp L E vL (cLc vs src g tt te nv st) = wp (fun xs s1 => wp L E () (compD g tt te (wipeN nv vs) [] xs s1)) E () (src nv st) := by
  exact w_bnd
theorem w_iSeq : wp L E vL (iSeq ta nv st) = wp (fun x s1 => wo (fun xs => L xs s1) () (stands x)) E () (ta nv st) := by
  exact (w_bnd).trans (wp_cong fun x s1 => w_lift)
/-- range's bounds -/
def rngD : List D → Option (List D)
  | [.int j] => if -(2 ^ 62) ≤ j ∧ j < 2 ^ 62 then some (upTo 0 j.toNat) else none
  | [.int i, .int j] => if -(2 ^ 62) ≤ i ∧ i < 2 ^ 62 ∧ -(2 ^ 62) ≤ j ∧ j < 2 ^ 62 then some (upTo i (j - i).toNat) else none
  | _ => none
theorem rngD1 {j : Int} (h : -(2 ^ 62) ≤ j ∧ j < 2 ^ 62) : rngD [.int j] = some (upTo 0 j.toNat) := by
  exact if_pos h
theorem w_iRng : wp L E vL (iRng tr nv st) = wp (fun xs s1 => wo (fun ys => L ys s1) () (rngD xs)) E () (tr nv st) := by
  refine (w_bnd).trans (wp_cong fun xs s1 => ?_)
  match xs with
  | [] => rfl
  | [.int j] =>
    unfold rngD; simp only
    by_cases h : -(2 ^ 62) ≤ j ∧ j < 2 ^ 62
    · rw [if_pos h, if_pos h]; rfl
    · rw [if_neg h, if_neg h]; rfl
  | [.int i, .int j] =>
    unfold rngD; simp only
    by_cases h : -(2 ^ 62) ≤ i ∧ i < 2 ^ 62 ∧ -(2 ^ 62) ≤ j ∧ j < 2 ^ 62
    · rw [if_pos h, if_pos h]; rfl
    · rw [if_neg h, if_neg h]; rfl
  | [.non] | [.bl _] | [.str _] | [.tup _] | [.lst _] | [.ro _] | [.ref _] => rfl
  | [.int _, .non] | [.int _, .bl _] | [.int _, .str _] | [.int _, .tup _] | [.int _, .lst _] | [.int _, .ro _] | [.int _, .ref _] => rfl
  | [.non, _] | [.bl _, _] | [.str _, _] | [.tup _, _] | [.lst _, _] | [.ro _, _] | [.ref _, _] => rfl
  | x :: y :: z :: r => cases x <;> cases y <;> rfl
end
/-! statements -/
section
variable {α : Type} {E : Exn → Sto → Prop} {R : Fl → Sto → Prop} {v : Dep R E} {st : Sto} {nv : Nv}
variable {s s' : Ts} {g : Tg} {gs : Tgs} {ta tb tc : Tm} {tr : Nv → M (List D)} {t : Nv → M Bool}
/-- what is raised within a statement ends it so -/
abbrev EX (R : Fl → Sto → Prop) (nv : Nv) : Exn → Sto → Prop := fun x s => R (.ex x nv) s
theorem w_next : wp R E v (sNext nv st) = R (.nx nv) st := rfl
theorem w_seq : wp R E v (sSeq s s' nv st) = wp (fun f s1 => fl (fun nv1 => wp R E () (s' nv1 s1)) (fun f => R f s1) () f) E () (s nv st) := by
  exact (w_bnd).trans (wp_cong fun f s1 => by cases f <;> rfl)
theorem w_do {e : Nv → M α} {k : α → Ts} : wp R E v (sDo e k nv st) = wp (fun a s1 => wp R E () (k a nv s1)) (EX R nv) () (e nv st) := by
  unfold sDo wp
  cases e nv st <;> rfl
theorem w_sret : wp R E v (sRet ta nv st) = wp (fun x s1 => R (.rt x) s1) (EX R nv) () (ta nv st) := by
  exact (w_do).trans (wp_cong fun x s1 => rfl)
theorem w_sretN : wp R E v (sRetN nv st) = R (.rt .non) st := rfl
theorem w_drop : wp R E v (sDrop ta nv st) = wp (fun x s1 => R (.nx nv) s1) (EX R nv) () (ta nv st) := by
  exact (w_do).trans (wp_cong fun x s1 => rfl)
theorem w_sif : wp R E v (sIf t s s' nv st) = wp (fun b s1 => wb (wp R E () (s nv s1)) (wp R E () (s' nv s1)) () b) (EX R nv) () (t nv st) := by
  exact (w_do).trans (wp_cong fun b s1 => by cases b <;> rfl)
theorem w_brk : wp R E v (sBrk nv st) = R (.bk nv) st := rfl
theorem w_cnt : wp R E v (sCnt nv st) = R (.ct nv) st := rfl
theorem w_asg : wp R E v (sAsg ta g nv st) = wp (fun x s1 => wp (fun nv1 s2 => R (.nx nv1) s2) E () (g x nv s1)) (EX R nv) () (ta nv st) := by
  exact (w_do).trans (wp_cong fun x s1 => (w_bnd).trans (wp_cong fun _ _ => rfl))
variable {G : Nv → Sto → Prop} {vG : Dep G E}
theorem w_nm {i : Nat} {x : D} : wp G E vG (gNm i x nv st) = G (nv.set i (some x)) st := rfl
theorem w_gnil : wp G E vG (PV.gNil [] nv st) = G nv st := rfl
theorem w_gcons {x : D} {xs : List D} : wp G E vG (PV.gCons g gs (x :: xs) nv st) = wp (fun nv1 s1 => wp G E () (gs xs nv1 s1)) E () (g x nv st) := by
  exact w_bnd
theorem w_gseq {n : Nat} {x : D} : wp G E vG (gSeq n gs x nv st) = wo (fun xs => wc (wp G E () (gs xs nv st)) () (xs.length = n)) () (items st x) := by
  unfold gSeq
  cases items st x with
  | none => rfl
  | some xs =>
    simp only [o_some]
    by_cases h : xs.length = n
    · rw [if_pos h]; exact propext ⟨fun q => ⟨h, q⟩, fun q => q.2⟩
    · rw [if_neg h]; exact propext ⟨fun q => q.elim, fun q => h q.1⟩
/-- a list of the store with one item otherwise -/
def subD (st : Sto) (o i x : D) : Option Sto := match o, i with
  | .ref n, .int k => match st[n]? with
    | some (.lst ds) => (ixN ds.length k).map fun j => st.set n (.lst (ds.set j x))
    | _ => none
  | _, _ => none
def F0 : Exn → Sto → Prop := fun _ _ => False
theorem gsub_core {o i x : D} {s2 : Sto} : wp G E vG (match o, i with
    | .ref n, .int k => match s2[n]? with
      | some (.lst ds) => match ixN ds.length k with
        | some j => .ok nv (s2.set n (.lst (ds.set j x)))
        | none => .bad
      | _ => .bad
    | _, _ => .bad) = wo (fun s3 => G nv s3) () (subD s2 o i x) := by
  unfold subD
  cases o with
  | ref n =>
    cases i with
    | int k =>
      simp only
      cases s2[n]? with
      | none => rfl
      | some o =>
        cases o with
        | lst ds =>
          simp only
          cases ixN ds.length k <;> rfl
        | dic _ => rfl
    | _ => rfl
  | _ => cases i <;> rfl
theorem w_gdo {α : Type} {e : Nv → M α} {k : α → Nv → M Nv} : wp G E vG (gDo e k nv st) = wp (fun a s => wp G E () (k a nv s)) F0 () (e nv st) := by
  unfold gDo wp
  cases e nv st <;> rfl
theorem w_gsub {to ti : Tm} {x : D} : wp G E vG (gSubL to ti x nv st) = wp (fun o s1 => wp (fun i s2 => wo (fun s3 => G nv s3) () (subD s2 o i x)) F0 () (ti nv s1)) F0 () (to nv st) :=
  (w_gdo).trans (wp_cong fun o s1 => (w_gdo).trans (wp_cong fun i s2 => gsub_core))
def two : List D → Option (D × D)
  | [x, y] => some (x, y)
  | _ => none
theorem two_two {x y : D} : two [x, y] = some (x, y) := rfl
theorem w_par {i j : Nat} : wp R E v (sPar i j tr nv st) = wp (fun xs s1 => wo (fun p => R (.nx ((nv.set i (some p.1)).set j (some p.2))) s1) () (two xs)) (EX R nv) () (tr nv st) := by
  refine (w_do).trans (wp_cong fun xs s1 => ?_)
  match xs with
  | [] => rfl
  | [_] => rfl
  | [_, _] => rfl
  | _ :: _ :: _ :: _ => rfl
theorem w_for {src : Nv → M (List D)} : wp R E v (sFor src g s nv st) = wp (fun xs s1 => wp R E () (loopD g s xs nv s1)) (EX R nv) () (src nv st) := by
  exact w_do
/-- a dict of the store with one entry otherwise -/
def dputD (st : Sto) (o k x : D) : Option Sto := match o, keyD k with
  | .ref n, some key => match st[n]? with
    | some (.dic kvs) => if kvs.length < PySem.sizeLine then some (st.set n (.dic (putD kvs key x))) else none
    | _ => none
  | _, _ => none
theorem w_dput {tv td tk : Tm} : wp R E v (sDput tv td tk nv st) = wp (fun x s1 => wp (fun o s2 => wp (fun k s3 => wo (fun s4 => R (.nx nv) s4) () (dputD s3 o k x)) (EX R nv) () (tk nv s2)) (EX R nv) () (td nv s1)) (EX R nv) () (tv nv st) := by
  refine (w_do).trans (wp_cong fun x s1 => (w_do).trans (wp_cong fun o s2 => (w_do).trans (wp_cong fun k s3 => ?_)))
  unfold dputD
  cases o with
  | ref n =>
    cases keyD k with
    | none => rfl
    | some key =>
      simp only
      cases s3[n]? with
      | none => rfl
      | some o =>
        cases o with
        | lst ds => rfl
        | dic kvs =>
          simp only
          split <;> rfl
  | _ => rfl
/-- a list of the store with one item more -/
def appD (st : Sto) (n : Nat) (x : D) : Option Sto := match st[n]? with
  | some (.lst ds) => if ds.length < PySem.sizeLine then some (st.set n (.lst (ds ++ [x]))) else none
  | _ => none
def refD (st : Sto) : D → Option Nat
  | .ref n => match st[n]? with
    | some (.lst _) => some n
    | _ => none
  | _ => none
theorem w_app {to te : Tm} : wp R E v (sApp to te nv st) = wp (fun o s1 => wo (fun n => wp (fun x s2 => wo (fun s3 => R (.nx nv) s3) () (appD s2 n x)) (EX R nv) () (te nv s1)) () (refD s1 o)) (EX R nv) () (to nv st) := by
  refine (w_do).trans (wp_cong fun o s1 => ?_)
  unfold refD
  cases o with
  | ref n =>
    simp only
    cases s1[n]? with
    | none => rfl
    | some o =>
      cases o with
      | lst ds =>
        refine (w_do).trans (wp_cong (v := ()) fun x s2 => ?_)
        unfold appD
        cases s2[n]? with
        | none => rfl
        | some o =>
          cases o with
          | lst ds =>
            simp only
            split <;> rfl
          | dic _ => rfl
      | dic _ => rfl
  | _ => rfl
/-- a def's end -/
def en (R : D → Sto → Prop) (E : Exn → Sto → Prop) (_ : Dep R E) (f : Fl) (s : Sto) : Prop := match f with
  | .rt x => R x s
  | .nx _ => R .non s
  | .ex x _ => E x s
  | _ => False
section
variable {R : D → Sto → Prop} {v : Dep R E} {x : D} {e : Exn}
theorem e_rt : en R E v (.rt x) st = R x st := rfl
theorem e_nx : en R E v (.nx nv) st = R .non st := rfl
theorem e_ex : en R E v (.ex e nv) st = E e st := rfl
end
/-- .. nothing to be left behind -/
theorem w_runF {R : D → Sto → Prop} {v : Dep R E} {np n : Nat} {body : Ts} {ds : List D} (h : ds.length = np) : wp R E v (runF false np n body ds st) =
    wp (fun f s1 => en R E () f s1) (fun _ _ => False) () (body (startN n ds) st) := by
  unfold runF
  rw [if_pos h]
  unfold leaveD
  cases body (startN n ds) st with
  | ok f s1 => cases f <;> rfl
  | exc _ _ => rfl
  | bad => rfl
section
variable {R : D → Sto → Prop} {v : Dep R E} {n : Nat} {body : Ts} {x y z : D}
theorem w_run1 : wp R E v (runF false 1 n body [x] st) = wp (fun f s1 => en R E () f s1) (fun _ _ => False) () (body ([some x] ++ List.replicate (n - 1) none) st) := w_runF rfl
theorem w_run2 : wp R E v (runF false 2 n body [x, y] st) = wp (fun f s1 => en R E () f s1) (fun _ _ => False) () (body ([some x, some y] ++ List.replicate (n - 2) none) st) := w_runF rfl
theorem w_run3 : wp R E v (runF false 3 n body [x, y, z] st) = wp (fun f s1 => en R E () f s1) (fun _ _ => False) () (body ([some x, some y, some z] ++ List.replicate (n - 3) none) st) := w_runF rfl
end
/-- .. what is left behind is told by content -/
def LvOk (st st1 : Sto) (x y : D) : Prop := thaw st1 st.length 40 x = some y ∧ OldOk st st1 ∧ st.length ≤ st1.length
def enT (st : Sto) (R : D → Sto → Prop) (E : Exn → Sto → Prop) (_ : Dep R E) (f : Fl) (s : Sto) : Prop := match f with
  | .rt x => ∃ y, LvOk st s x y ∧ R y (s.take st.length)
  | .nx _ => (OldOk st s ∧ st.length ≤ s.length) ∧ R .non (s.take st.length)
  | .ex x _ => ((OldOk st s ∧ st.length ≤ s.length) ∧ ((x.fs.getD []).all fun p => below st.length p.2) = true) ∧ E x (s.take st.length)
  | _ => False
section
variable {R : D → Sto → Prop} {v : Dep R E} {x : D} {e : Exn} {s : Sto}
theorem t_rt : enT s R E v (.rt x) st = ∃ y, LvOk s st x y ∧ R y (st.take s.length) := rfl
theorem t_nx : enT s R E v (.nx nv) st = ((OldOk s st ∧ s.length ≤ st.length) ∧ R .non (st.take s.length)) := rfl
end
theorem w_runT {R : D → Sto → Prop} {v : Dep R E} {np n : Nat} {body : Ts} {ds : List D} (h : ds.length = np) (q : wp (fun f s1 => enT st R E () f s1) (fun _ _ => False) () (body (startN n ds) st)) : wp R E v (runF true np n body ds st) := by
  unfold runF
  rw [if_pos h]
  unfold leaveD
  cases e : body (startN n ds) st with
  | ok f s1 =>
    rw [e] at q
    cases f with
    | rt x =>
      obtain ⟨y, ⟨h1, h2⟩, h3⟩ := q
      simp only [if_true]
      rw [h1]
      simp only
      rw [if_pos h2]
      exact h3
    | nx nv =>
      simp only [if_true]
      rw [if_pos q.1]
      exact q.2
    | ex x nv =>
      simp only [if_true]
      rw [if_pos q.1]
      exact q.2
    | bk _ => exact q
    | ct _ => exact q
  | exc _ _ => rw [e] at q; exact q
  | bad => rw [e] at q; exact q
/-- a turn's end -/
abbrev DepL (_ _ : Nv → Prop) (_ : Fl → Prop) : Type := Unit
def lp (K B : Nv → Prop) (R : Fl → Prop) (_ : DepL K B R) (f : Fl) : Prop := match f with
  | .nx nv => K nv
  | .ct nv => K nv
  | .bk nv => B nv
  | f => R f
section
variable {K B : Nv → Prop} {R : Fl → Prop} {v : DepL K B R} {x : D} {e : Exn}
theorem l_nx : lp K B R v (.nx nv) = K nv := rfl
theorem l_ct : lp K B R v (.ct nv) = K nv := rfl
theorem l_bk : lp K B R v (.bk nv) = B nv := rfl
theorem l_rt : lp K B R v (.rt x) = R (.rt x) := rfl
theorem l_ex : lp K B R v (.ex e nv) = R (.ex e nv) := rfl
end
theorem w_loop0 : wp R E v (loopD g s [] nv st) = R (.nx nv) st := rfl
theorem w_loop1 {x : D} {xs : List D} : wp R E v (loopD g s (x :: xs) nv st) =
    wp (fun nv1 s1 => wp (fun f s2 => lp (fun nv2 => wp R E () (loopD g s xs nv2 s2)) (fun nv2 => R (.nx nv2) s2) (fun f => R f s2) () f) E () (s nv1 s1)) F0 () (g x nv st) := by
  unfold loopD
  cases g x nv st with
  | ok nv1 s1 =>
    show wp R E v (match s nv1 s1 with
      | .ok (.nx nv2) st2 => loopD g s xs nv2 st2
      | .ok (.ct nv2) st2 => loopD g s xs nv2 st2
      | .ok (.bk nv2) st2 => .ok (.nx nv2) st2
      | o => o) = wp (fun f s2 => lp (fun nv2 => wp R E () (loopD g s xs nv2 s2)) (fun nv2 => R (.nx nv2) s2) (fun f => R f s2) () f) E () (s nv1 s1)
    cases s nv1 s1 with
    | ok f s2 => cases f <;> rfl
    | exc _ _ => rfl
    | bad => rfl
  | exc _ _ => rfl
  | bad => rfl
/-- a loop kept by what holds ahead of each turn -/
theorem w_loop {I : Nat → Nv → Sto → Prop} {xs : List D} (i0 : I 0 nv st)
    (step : ∀ i x nv st, xs[i]? = some x → I i nv st → wp (fun nv1 s1 => wp (fun f s2 => lp (fun nv2 => I (i + 1) nv2 s2) (fun nv2 => R (.nx nv2) s2) (fun f => R f s2) () f) E () (s nv1 s1)) F0 () (g x nv st))
    (done : ∀ nv st, I xs.length nv st → R (.nx nv) st) : wp R E v (loopD g s xs nv st) := by
  suffices h : ∀ (k : Nat) (j : Nat) nv st, j + k = xs.length → I j nv st → wp R E () (loopD g s (xs.drop j) nv st) by
    simpa using h xs.length 0 nv st (by omega) i0
  intro k
  induction k with
  | zero =>
    intro j nv st hj hI
    rw [List.drop_eq_nil_of_le (by omega)]
    exact done nv st (by rw [show xs.length = j by omega]; exact hI)
  | succ k ih =>
    intro j nv st hj hI
    have hl : j < xs.length := by omega
    rw [List.drop_eq_getElem_cons hl, w_loop1]
    refine wp_mono (step j _ nv st (List.getElem?_eq_getElem hl) hI) (fun nv1 s1 h1 => wp_mono h1 (fun f s2 h2 => ?_) fun _ _ h => h) fun _ _ h => h
    cases f with
    | nx nv2 => exact ih (j + 1) nv2 s2 (by omega) h2
    | ct nv2 => exact ih (j + 1) nv2 s2 (by omega) h2
    | bk nv2 => exact h2
    | rt x => exact h2
    | ex x nv2 => exact h2
section
variable {L : List D → Sto → Prop} {vL : Dep L E} {tt : Nv → M Bool} {te : Tm} {acc : List D}
theorem w_comp0 : wp L E vL (compD g tt te nv acc [] st) = L acc st := rfl
theorem w_comp1 {x : D} {xs : List D} : wp L E vL (compD g tt te nv acc (x :: xs) st) =
    wp (fun nv1 s1 => wp (fun b s2 => wb (wp (fun y s3 => wc (wp L E () (compD g tt te nv (acc ++ [y]) xs s3)) () (acc.length < PySem.sizeLine)) F0 () (te nv1 s2)) (wp L E () (compD g tt te nv acc xs s2)) () b) F0 () (tt nv1 s1)) F0 () (g x nv st) := by
  unfold compD
  cases g x nv st with
  | ok nv1 s1 =>
    show wp L E vL (match tt nv1 s1 with
      | .ok true st2 => match te nv1 st2 with
        | .ok y st3 => if acc.length < PySem.sizeLine then compD g tt te nv (acc ++ [y]) xs st3 else .bad
        | _ => .bad
      | .ok false st2 => compD g tt te nv acc xs st2
      | _ => .bad) = wp (fun b s2 => wb (wp (fun y s3 => wc (wp L E () (compD g tt te nv (acc ++ [y]) xs s3)) () (acc.length < PySem.sizeLine)) F0 () (te nv1 s2)) (wp L E () (compD g tt te nv acc xs s2)) () b) F0 () (tt nv1 s1)
    cases tt nv1 s1 with
    | ok b s2 =>
      cases b with
      | true =>
        show wp L E vL (match te nv1 s2 with
          | .ok y st3 => if acc.length < PySem.sizeLine then compD g tt te nv (acc ++ [y]) xs st3 else .bad
          | _ => .bad) = wp (fun y s3 => wc (wp L E () (compD g tt te nv (acc ++ [y]) xs s3)) () (acc.length < PySem.sizeLine)) F0 () (te nv1 s2)
        cases te nv1 s2 with
        | ok y s3 =>
          show wp L E vL (if acc.length < PySem.sizeLine then compD g tt te nv (acc ++ [y]) xs s3 else .bad) = wc (wp L E () (compD g tt te nv (acc ++ [y]) xs s3)) () (acc.length < PySem.sizeLine)
          by_cases h : acc.length < PySem.sizeLine
          · rw [if_pos h]; exact propext ⟨fun q => ⟨h, q⟩, fun q => q.2⟩
          · rw [if_neg h]; exact propext ⟨fun q => q.elim, fun q => h q.1⟩
        | exc _ _ => rfl
        | bad => rfl
      | false => rfl
    | exc _ _ => rfl
    | bad => rfl
  | exc _ _ => rfl
  | bad => rfl
theorem wipe0 : wipeN nv [] = nv := rfl
theorem wipe1 {x : Nat} {xs : List Nat} : wipeN nv (x :: xs) = (wipeN nv xs).set x none := rfl
end
end
end PV
end

section
namespace PV
open PySem L2
section
variable {st : Sto} {a b : Int} {x y : D}
theorem szl : PySem.sizeLine = 16777216 := rfl
theorem k_add : dAdd st (.int a) (.int b) = some (.int (a + b)) := rfl
theorem k_sub : dSub st (.int a) (.int b) = some (.int (a - b)) := rfl
theorem k_mul : dMul st (.int a) (.int b) = if CMulW a b then some (.int (a * b)) else none := rfl
theorem k_div : dDiv st (.int a) (.int b) = if CDivW a b then some (.int (a / b)) else none := rfl
theorem k_mod : dMod st (.int a) (.int b) = if 0 < b then some (.int (a % b)) else none := rfl
theorem k_pow : dPow st (.int a) (.int b) = if CPow a b then some (.int (a ^ b.toNat)) else none := rfl
theorem k_neg : dNeg st (.int a) = some (.int (-a)) := rfl
theorem k_cmp {f : Int → Int → Bool} : dCmp f st (.int a) (.int b) = some (.bl (f a b)) := rfl
theorem k_eqi : dEq st (.int a) (.int b) = some (.bl (decide (a = b))) := by
  unfold dEq dat
  simp [toP, SeqAt.shaped, PyData.canLay0, PyData.depth, PyData.eqv]
  rfl
theorem k_nei : dNe st (.int a) (.int b) = some (.bl (!decide (a = b))) := by
  unfold dNe dat
  simp [toP, SeqAt.shaped, PyData.canLay0, PyData.depth, PyData.eqv]
  rfl
theorem k_divmod : fDivmod st [.int a, .int b] = if CDivP a b then some (.tup [.int (a / b), .int (a % b)]) else none := rfl
theorem k_gcd : fGcd st [.int a, .int b] = some (.int ((Nat.gcd a.natAbs b.natAbs : Nat) : Int)) := rfl
theorem k_abs : fAbs st [.int a] = some (.int (if a < 0 then -a else a)) := rfl
theorem fl_tup {xs : List D} : fLen st [.tup xs] = some (.int (xs.length : Nat)) := rfl
theorem fl_lst {xs : List D} : fLen st [.lst xs] = some (.int (xs.length : Nat)) := rfl
theorem ix_tup0 {xs : List D} : dIx st (.tup (x :: xs)) (.int 0) = some x := by
  simp [dIx, items, atI, ixN]
theorem ix_tup1 {xs : List D} : dIx st (.tup (x :: y :: xs)) (.int 1) = some y := by
  simp only [dIx, items, atI, ixN, List.length_cons]
  rw [if_pos (by decide), if_pos (by omega)]
  rfl

theorem nco {n : Nat} : (Nat.cast (no_index (OfNat.ofNat n)) : Int) = (OfNat.ofNat n : Int) := rfl
section
variable {b : Bool} {i : Int} {z : Str} {xs : List D}
theorem isa_int_non : dIsa "int" st .non = some (.bl false) := rfl
theorem isa_int_bl : dIsa "int" st (.bl b) = some (.bl true) := rfl
theorem isa_int_int : dIsa "int" st (.int i) = some (.bl true) := rfl
theorem isa_int_str : dIsa "int" st (.str z) = some (.bl false) := rfl
theorem isa_int_tup : dIsa "int" st (.tup xs) = some (.bl false) := rfl
theorem isa_int_lst : dIsa "int" st (.lst xs) = some (.bl false) := rfl
theorem isa_int_ro : dIsa "int" st (.ro xs) = some (.bl false) := rfl
theorem isa_bool_non : dIsa "bool" st .non = some (.bl false) := rfl
theorem isa_bool_bl : dIsa "bool" st (.bl b) = some (.bl true) := rfl
theorem isa_bool_int : dIsa "bool" st (.int i) = some (.bl false) := rfl
theorem isa_bool_str : dIsa "bool" st (.str z) = some (.bl false) := rfl
theorem isa_bool_tup : dIsa "bool" st (.tup xs) = some (.bl false) := rfl
theorem isa_bool_lst : dIsa "bool" st (.lst xs) = some (.bl false) := rfl
theorem isa_bool_ro : dIsa "bool" st (.ro xs) = some (.bl false) := rfl
theorem isa_tuple_non : dIsa "tuple" st .non = some (.bl false) := rfl
theorem isa_tuple_bl : dIsa "tuple" st (.bl b) = some (.bl false) := rfl
theorem isa_tuple_int : dIsa "tuple" st (.int i) = some (.bl false) := rfl
theorem isa_tuple_str : dIsa "tuple" st (.str z) = some (.bl false) := rfl
theorem isa_tuple_tup : dIsa "tuple" st (.tup xs) = some (.bl true) := rfl
theorem isa_tuple_lst : dIsa "tuple" st (.lst xs) = some (.bl false) := rfl
theorem isa_tuple_ro : dIsa "tuple" st (.ro xs) = some (.bl false) := rfl
theorem isa_list_non : dIsa "list" st .non = some (.bl false) := rfl
theorem isa_list_bl : dIsa "list" st (.bl b) = some (.bl false) := rfl
theorem isa_list_int : dIsa "list" st (.int i) = some (.bl false) := rfl
theorem isa_list_str : dIsa "list" st (.str z) = some (.bl false) := rfl
theorem isa_list_tup : dIsa "list" st (.tup xs) = some (.bl false) := rfl
theorem isa_list_lst : dIsa "list" st (.lst xs) = some (.bl true) := rfl
theorem isa_list_ro : dIsa "list" st (.ro xs) = some (.bl true) := rfl
theorem isa_str_non : dIsa "str" st .non = some (.bl false) := rfl
theorem isa_str_bl : dIsa "str" st (.bl b) = some (.bl false) := rfl
theorem isa_str_int : dIsa "str" st (.int i) = some (.bl false) := rfl
theorem isa_str_str : dIsa "str" st (.str z) = some (.bl true) := rfl
theorem isa_str_tup : dIsa "str" st (.tup xs) = some (.bl false) := rfl
theorem isa_str_lst : dIsa "str" st (.lst xs) = some (.bl false) := rfl
theorem isa_str_ro : dIsa "str" st (.ro xs) = some (.bl false) := rfl
theorem isl_non : dIsaL ["tuple", "list"] st .non = some (.bl false) := rfl
theorem isl_bl : dIsaL ["tuple", "list"] st (.bl b) = some (.bl false) := rfl
theorem isl_int : dIsaL ["tuple", "list"] st (.int i) = some (.bl false) := rfl
theorem isl_str : dIsaL ["tuple", "list"] st (.str z) = some (.bl false) := rfl
theorem isl_tup : dIsaL ["tuple", "list"] st (.tup xs) = some (.bl true) := rfl
theorem isl_lst : dIsaL ["tuple", "list"] st (.lst xs) = some (.bl true) := rfl
theorem isl_ro : dIsaL ["tuple", "list"] st (.ro xs) = some (.bl true) := rfl
end
theorem fall_lst {xs : List D} : fAll st [.lst xs] = (bools xs).map fun bs => .bl (bs.all id) := rfl
theorem bools0 : bools [] = some [] := rfl
theorem bools1 {b : Bool} {r : List D} : bools (.bl b :: r) = (bools r).map (b :: ·) := rfl
theorem i_tup {xs : List D} : items st (.tup xs) = some xs := rfl
theorem i_lst {xs : List D} : items st (.lst xs) = some xs := rfl
theorem i_ro {xs : List D} : items st (.ro xs) = some xs := rfl
theorem lo_lst {xs : List D} : lstOf st (.lst xs) = some xs := rfl
theorem st_lst {xs : List D} : stands (.lst xs) = some xs := rfl
theorem st_ro {xs : List D} : stands (.ro xs) = some xs := rfl
theorem st_tup {xs : List D} : stands (.tup xs) = some xs := rfl
theorem startN_eq {n : Nat} {ds : List D} : startN n ds = ds.map some ++ List.replicate (n - ds.length) none := rfl
theorem cm_of (ha : a.natAbs < 2 ^ 250) (hb : b.natAbs < 2 ^ 250) : CMulW a b := by
  have key : ∀ n : Nat, n < 2 ^ 250 → n.log2 < 250 := fun n h => by
    by_cases h0 : n = 0
    · subst h0; decide
    · exact (Nat.log2_lt h0).mpr h
  have h1 := key _ ha
  have h2 := key _ hb
  unfold CMulW; omega
theorem cd_of (h0 : 0 < b) (hb : b.natAbs < 2 ^ 250) : CDivW a b := by
  refine ⟨h0, ?_⟩
  have : b.natAbs.log2 < 250 := (Nat.log2_lt (by omega)).mpr hb
  omega
theorem cp_of (h0 : 0 < b) (hb : b.natAbs < 2 ^ 250) : CDivP a b := ⟨h0, PyProof.noPylong_of_log2 (cd_of (a := a) h0 hb).2⟩
end
/-! the digits' box: its cells (a first empty list lies ahead where the script had none), how often it was asked -/
def bC (e : Bool) : Nat := if e then 1 else 0
def bB (e : Bool) : Nat := bC e + 1
def bxD (e : Bool) (t : Int) : SO := .dic [(.inr "cells", .ref (bC e)), (.inr "turn", .int t)]
def bx (e : Bool) (cs : List Int) (t : Int) : Sto := (if e then [.lst []] else []) ++ [.lst (cs.map .int), bxD e t]
section
variable {e : Bool} {cs : List Int} {t : Int} {r : Sto}
theorem bx_len : (bx e cs t).length = bB e + 1 := by
  unfold bx bB bC; cases e <;> rfl
theorem bx_at : (bx e cs t ++ r)[bB e]? = some (bxD e t) := by
  rw [List.getElem?_append_left (by rw [bx_len]; omega)]
  unfold bx bB bC; cases e <;> rfl
theorem bx_atc : (bx e cs t ++ r)[bC e]? = some (.lst (cs.map .int)) := by
  rw [List.getElem?_append_left (by rw [bx_len]; unfold bB; omega)]
  unfold bx bC; cases e <;> rfl
theorem bx_turn : dGetD (bx e cs t ++ r) (.ref (bB e)) (.str "turn") = some (.int t) := by
  simp only [dGetD, dicOf, bx_at]; rfl
theorem bx_cells : dGetD (bx e cs t ++ r) (.ref (bB e)) (.str "cells") = some (.ref (bC e)) := by
  simp only [dGetD, dicOf, bx_at]; rfl
theorem bx_put {k : Int} : dputD (bx e cs t ++ r) (.ref (bB e)) (.str "turn") (.int k) = some (bx e cs k ++ r) := by
  simp only [dputD, keyD, bx_at, bxD]
  rw [if_pos (by show 2 < 2 ^ 24; decide)]
  congr 1
  rw [List.set_append_left _ _ (by rw [bx_len]; omega)]
  congr 1
  unfold bx bB bC bxD; cases e <;> rfl
theorem bx_lenc : fLen (bx e cs t ++ r) [.ref (bC e)] = some (.int (cs.length : Nat)) := by
  simp only [fLen, items, bx_atc]; simp
theorem bx_ix {i : Int} : dIx (bx e cs t ++ r) (.ref (bC e)) (.int i) = (atI cs i).map .int := by
  simp only [dIx, items, bx_atc, atI, List.length_map]
  cases ixN cs.length i with
  | none => rfl
  | some j => simp
theorem bx_sub {i k : Int} : subD (bx e cs t ++ r) (.ref (bC e)) (.int i) (.int k) = (ixN cs.length i).map fun j => bx e (cs.set j k) t ++ r := by
  simp only [subD, bx_atc, List.length_map]
  congr 1
  funext j
  rw [List.set_append_left _ _ (by rw [bx_len]; unfold bB; omega)]
  congr 1
  unfold bx bxD; simp only [← List.map_set]
  unfold bC; cases e <;> rfl
/-- an index within a list that is not empty -/
theorem ix_mod {n : Nat} {i : Int} (h0 : 0 ≤ i) (h1 : i < n) : ixN n i = some i.toNat := by
  unfold ixN; rw [if_pos h0, if_pos h1]
end
end PV
end

section
namespace PV
open PySem L2
mutual
/-- data of numbers that are not too long -/
def gd : PyData → Bool
  | .none => true
  | .bool _ => true
  | .int i => decide (i.natAbs < 2 ^ 250)
  | .str x => x.cps.all (· < 0x110000)
  | .list xs => gds xs
  | .tuple xs => gds xs
  | .dict _ => false
def gds : List PyData → Bool
  | [] => true
  | x :: xs => gd x && gds xs
end
mutual
def ofP : PyData → D
  | .none => .non
  | .bool b => .bl b
  | .int i => .int i
  | .str x => .str x
  | .list xs => .lst (ofPs xs)
  | .tuple xs => .tup (ofPs xs)
  | .dict _ => .non
def ofPs : List PyData → List D
  | [] => []
  | x :: xs => ofP x :: ofPs xs
end
theorem ofPs_map : ∀ xs : List PyData, ofPs xs = xs.map ofP
  | [] => by simp [ofPs]
  | x :: xs => by simp [ofPs, ofPs_map xs]
theorem gds_all : ∀ {xs : List PyData}, gds xs = true ↔ ∀ x ∈ xs, gd x = true
  | [] => by simp [gds]
  | x :: xs => by simp [gds, gds_all (xs := xs)]
theorem len_ofPs (xs : List PyData) : (ofPs xs).length = xs.length := by rw [ofPs_map, List.length_map]
mutual
theorem toP_of : ∀ (p : PyData) (n : Nat) (st : Sto), gd p = true → p.depth ≤ n → toP st n (ofP p) = some p
  | .none, n, st, _, _ => by simp [ofP, toP]
  | .bool _, n, st, _, _ => by simp [ofP, toP]
  | .int _, n, st, _, _ => by simp [ofP, toP]
  | .str _, n, st, _, _ => by simp [ofP, toP]
  | .list xs, 0, st, h, hd => by simp [PyData.depth] at hd
  | .tuple xs, 0, st, h, hd => by simp [PyData.depth] at hd
  | .list xs, n + 1, st, h, hd => by
    simp only [gd] at h
    simp only [PyData.depth] at hd
    simp only [ofP, toP, toPs_of xs n st h (by omega), Option.map]
  | .tuple xs, n + 1, st, h, hd => by
    simp only [gd] at h
    simp only [PyData.depth] at hd
    simp only [ofP, toP, toPs_of xs n st h (by omega), Option.map]
  | .dict _, _, _, h, _ => by simp [gd] at h
theorem toPs_of : ∀ (xs : List PyData) (n : Nat) (st : Sto), gds xs = true → PyData.depthAll xs ≤ n → toPs st n (ofPs xs) = some xs
  | [], n, st, _, _ => by simp [ofPs, toPs]
  | x :: xs, n, st, h, hd => by
    simp only [gds, Bool.and_eq_true] at h
    simp only [PyData.depthAll] at hd
    simp only [ofPs, toPs, toP_of x n st h.1 (by omega), toPs_of xs n st h.2 (by omega)]
end
mutual
theorem lay_of : ∀ p : PyData, gd p = true → p.canLay0 = true
  | .none, _ => by simp [PyData.canLay0]
  | .bool _, _ => by simp [PyData.canLay0]
  | .int _, _ => by simp [PyData.canLay0]
  | .str _, h => by simp only [gd] at h; simpa only [PyData.canLay0, PyData.strOk] using h
  | .list xs, h => by simp only [gd] at h; simp only [PyData.canLay0]; exact lays_of xs h
  | .tuple xs, h => by simp only [gd] at h; simp only [PyData.canLay0]; exact lays_of xs h
  | .dict _, h => by simp [gd] at h
theorem lays_of : ∀ xs : List PyData, gds xs = true → PyData.canLayAll0 xs = true
  | [], _ => by simp [PyData.canLayAll0]
  | x :: xs, h => by
    simp only [gds, Bool.and_eq_true] at h
    simp only [PyData.canLayAll0, Bool.and_eq_true]
    exact ⟨lay_of x h.1, lays_of xs h.2⟩
end
mutual
theorem show_of : ∀ p : PyData, gd p = true → p.showable = true
  | .none, _ => by simp [PyData.showable]
  | .bool _, _ => by simp [PyData.showable]
  | .int i, h => by
    simp only [gd, decide_eq_true_eq] at h
    simp only [PyData.showable, decide_eq_true_eq]
    by_cases h0 : i.natAbs = 0
    · rw [h0]; decide
    · have := (Nat.log2_lt h0).mpr h; omega
  | .str _, h => by simp [PyData.showable]
  | .list xs, h => by simp only [gd] at h; simp only [PyData.showable]; exact shows_of xs h
  | .tuple xs, h => by simp only [gd] at h; simp only [PyData.showable]; exact shows_of xs h
  | .dict _, h => by simp [gd] at h
theorem shows_of : ∀ xs : List PyData, gds xs = true → PyData.showableAll xs = true
  | [], _ => by simp [PyData.showableAll]
  | x :: xs, h => by
    simp only [gds, Bool.and_eq_true] at h
    simp only [PyData.showableAll, Bool.and_eq_true]
    exact ⟨show_of x h.1, shows_of xs h.2⟩
end
mutual
theorem short_of : ∀ p : PyData, gd p = true → p.leavesShort 100 = true
  | .none, _ => by simp [PyData.leavesShort]
  | .bool _, _ => by simp [PyData.leavesShort]
  | .int i, h => by
    simp only [gd, decide_eq_true_eq] at h
    simp only [PyData.leavesShort, decide_eq_true_eq]
    have e := PySem.int_text_length_le10 (k := 80) (by decide) (Nat.lt_trans h (show (2 : Nat) ^ 250 < 10 ^ 80 by decide))
    show (Str.ofString (toString i)).length ≤ 100
    rw [ofString_length]; omega
  | .str x, h => by
    simp only [gd] at h
    simp only [PyData.leavesShort, List.all_eq_true, decide_eq_true_eq]
    intro c hc
    simp only [Array.all_eq_true_iff_forall_mem, decide_eq_true_eq] at h
    have := h c (Array.mem_toList_iff.mp hc)
    omega
  | .list xs, h => by simp only [gd] at h; simp only [PyData.leavesShort]; exact shorts_of xs h
  | .tuple xs, h => by simp only [gd] at h; simp only [PyData.leavesShort]; exact shorts_of xs h
  | .dict _, h => by simp [gd] at h
theorem shorts_of : ∀ xs : List PyData, gds xs = true → PyData.leavesShortAll 100 xs = true
  | [], _ => by simp [PyData.leavesShortAll]
  | x :: xs, h => by
    simp only [gds, Bool.and_eq_true] at h
    simp only [PyData.leavesShortAll, Bool.and_eq_true]
    exact ⟨short_of x h.1, shorts_of xs h.2⟩
end
mutual
theorem thaw_of : ∀ (p : PyData) (k : Nat) (st : Sto) (n : Nat), gd p = true → p.depth ≤ k → thaw st n k (ofP p) = some (ofP p)
  | .none, n, st, _, _, _ => by simp [ofP, thaw]
  | .bool _, n, st, _, _, _ => by simp [ofP, thaw]
  | .int _, n, st, _, _, _ => by simp [ofP, thaw]
  | .str _, n, st, _, _, _ => by simp [ofP, thaw]
  | .list xs, 0, st, _, h, hd => by simp [PyData.depth] at hd
  | .tuple xs, 0, st, _, h, hd => by simp [PyData.depth] at hd
  | .list xs, k + 1, st, n, h, hd => by
    simp only [gd] at h
    simp only [PyData.depth] at hd
    simp only [ofP, thaw, thaws_of xs k st n h (by omega), Option.map]
  | .tuple xs, k + 1, st, n, h, hd => by
    simp only [gd] at h
    simp only [PyData.depth] at hd
    simp only [ofP, thaw, thaws_of xs k st n h (by omega), Option.map]
  | .dict _, _, _, _, h, _ => by simp [gd] at h
theorem thaws_of : ∀ (xs : List PyData) (k : Nat) (st : Sto) (n : Nat), gds xs = true → PyData.depthAll xs ≤ k → (ofPs xs).mapM (thaw st n k) = some (ofPs xs)
  | [], n, st, _, _, _ => by simp [ofPs]
  | x :: xs, k, st, n, h, hd => by
    simp only [gds, Bool.and_eq_true] at h
    simp only [PyData.depthAll] at hd
    simp [ofPs, List.mapM_cons, thaw_of x k st n h.1 (by omega), thaws_of xs k st n h.2 (by omega)]
end
section
variable {p q : PyData} {st : Sto}
theorem datP_of (h : gd p = true) (hd : p.depth ≤ 64) : dat st (ofP p) = some p := by
  unfold dat
  rw [toP_of p 64 st h hd]
  simp only [SeqAt.shaped, lay_of p h, Bool.true_and, decide_eq_true hd, if_true]
theorem repr_of (h : gd p = true) (hd : p.depth ≤ 64) (hw : p.weight ≤ 150000) : fRepr st [ofP p] = some (.str p.shown) := by
  have hl : p.shown.length ≤ 16777216 := by
    have := PyData.shown_le 100 (by decide) p (short_of p h)
    omega
  unfold fRepr
  simp only [datP_of h hd]
  exact if_pos ⟨show_of p h, hl⟩
theorem deq_of (h : gd p = true) (hd : p.depth ≤ 64) (h' : gd q = true) (hd' : q.depth ≤ 64) : dEq st (ofP p) (ofP q) = some (.bl (PyData.eqv p q)) := by
  unfold dEq
  rw [datP_of h hd, datP_of h' hd']
theorem dne_of (h : gd p = true) (hd : p.depth ≤ 64) (h' : gd q = true) (hd' : q.depth ≤ 64) : dNe st (ofP p) (ofP q) = some (.bl (!PyData.eqv p q)) := by
  unfold dNe
  rw [datP_of h hd, datP_of h' hd']
end
end PV
end

section
namespace PV
open PySem L2
open Builtin Builtin.Str
def okS (s : Str) : Prop := ∀ c ∈ s.cps.toList, c < 0x110000
theorem okS_app {a b : Str} (ha : okS a) (hb : okS b) : okS (a ++ b) := by
  intro c hc
  have e : (a ++ b).cps = a.cps ++ b.cps := rfl
  rw [e, Array.toList_append] at hc
  exact (List.mem_append.mp hc).elim (ha c) (hb c)
theorem chr_ok (d : Char) : d.toNat < 0x110000 := by
  have := d.valid
  simp only [UInt32.isValidChar, Nat.isValidChar] at this
  have e : d.toNat = d.val.toNat := rfl
  omega
theorem okS_of (s : String) : okS (Str.ofString s) := by
  intro c hc
  rw [Str.ofString_eq_toList] at hc
  simp only [List.mem_map] at hc
  obtain ⟨d, -, rfl⟩ := hc
  exact chr_ok d
theorem reprChar_ok {q c : Nat} (hc : c < 0x110000) : ∀ x ∈ reprChar q c, x < 0x110000 := by
  have hx : ∀ w, ∀ x ∈ (List.replicate (w - ((Nat.toDigits 16 c).map Char.toNat).length) 48 ++ (Nat.toDigits 16 c).map Char.toNat), x < 0x110000 := by
    intro w x h
    rcases List.mem_append.mp h with h | h
    · rw [List.eq_of_mem_replicate h]; decide
    · simp only [List.mem_map] at h
      obtain ⟨d, -, rfl⟩ := h
      exact chr_ok d
  have lit : ∀ {a b : Nat} {l : List Nat}, a < 0x110000 → b < 0x110000 → (∀ x ∈ l, x < 0x110000) → ∀ x ∈ [a, b] ++ l, x < 0x110000 := fun ha hb hl x h => by
    simp only [List.cons_append, List.nil_append, List.mem_cons] at h
    rcases h with rfl | rfl | h
    · exact ha
    · exact hb
    · exact hl x h
  unfold reprChar
  dsimp only
  repeat' split
  all_goals first
    | exact lit (by decide) (by decide) (hx _)
    | (intro x h
       simp only [List.mem_cons, List.not_mem_nil, or_false] at h
       rcases h with rfl | rfl <;> first | exact hc | decide)
    | (intro x h
       simp only [List.mem_cons, List.not_mem_nil, or_false] at h
       rw [h]; exact hc)
theorem foldl_ok (q : Nat) : ∀ (l : List Nat) (acc : Array Nat), (∀ x ∈ acc.toList, x < 0x110000) → (∀ c ∈ l, c < 0x110000) → ∀ x ∈ (l.foldl (fun out c => out ++ (reprChar q c).toArray) acc).toList, x < 0x110000
  | [], acc, h, _ => h
  | c :: r, acc, h, hl => by
    simp only [List.foldl_cons]
    refine foldl_ok q r _ (fun x hx => ?_) fun d hd => hl d (List.mem_cons_of_mem _ hd)
    rw [Array.toList_append] at hx
    exact (List.mem_append.mp hx).elim (h x) (reprChar_ok (hl c List.mem_cons_self) x)
theorem okS_repr {s : Str} (h : okS s) : okS (reprText s) := by
  have hq : reprQuote s < 0x110000 := by
    unfold reprQuote
    split <;> decide
  intro x hx
  unfold reprText at hx
  have hx : x ∈ ((s.cps.foldl (fun out c => out ++ (reprChar (reprQuote s) c).toArray) #[reprQuote s]).push (reprQuote s)).toList := hx
  rw [Array.toList_push, ← Array.foldl_toList] at hx
  rcases List.mem_append.mp hx with hx | hx
  · exact foldl_ok (reprQuote s) s.cps.toList #[reprQuote s] (fun y hy => by simp at hy; rw [hy]; exact hq) h x hx
  · rw [List.mem_singleton.mp hx]; exact hq
theorem okS_from : ∀ (ts : List Str) (k : Nat) (acc : Str), okS acc → (∀ t ∈ ts, okS t) → okS (textFrom k acc ts)
  | [], _, _, h, _ => h
  | t :: ts, k, acc, h, ht => okS_from ts (k + 1) _ (okS_app (okS_app h (okS_of _)) (ht t List.mem_cons_self)) fun x hx => ht x (List.mem_cons_of_mem _ hx)
theorem okS_join {sep : Str} (hs : okS sep) : ∀ (ts : List Str), (∀ t ∈ ts, okS t) → okS (Str.join sep ts)
  | [], _ => by intro c hc; exact absurd hc (by simp [Str.join, Str.empty])
  | [x], h => h x List.mem_cons_self
  | x :: y :: r, h => okS_app (okS_app (h x List.mem_cons_self) hs) (okS_join hs (y :: r) fun z hz => h z (List.mem_cons_of_mem _ hz))
mutual
theorem okS_shown : ∀ p : PyData, gd p = true → okS p.shown
  | .none, _ => okS_of _
  | .bool b, _ => by
    simp only [PyData.shown]
    split <;> exact okS_of _
  | .int i, _ => okS_of _
  | .str x, h => by
    simp only [gd] at h
    simp only [PyData.shown]
    refine okS_repr fun c hc => ?_
    simp only [Array.all_eq_true_iff_forall_mem, decide_eq_true_eq] at h
    exact h c (Array.mem_toList_iff.mp hc)
  | .list xs, h => by
    simp only [gd] at h
    simp only [PyData.shown]
    exact okS_app (okS_from _ 0 _ (okS_of _) (okS_showns xs h)) (okS_of _)
  | .tuple xs, h => by
    simp only [gd] at h
    simp only [PyData.shown]
    exact okS_app (okS_app (okS_of _) (okS_join (okS_of _) _ (okS_showns xs h))) (okS_of _)
  | .dict _, h => by simp [gd] at h
theorem okS_showns : ∀ xs : List PyData, gds xs = true → ∀ t ∈ PyData.shownAll xs, okS t
  | [], _, t, h => by simp [PyData.shownAll] at h
  | x :: xs, h, t, ht => by
    simp only [gds, Bool.and_eq_true] at h
    simp only [PyData.shownAll, List.mem_cons] at ht
    rcases ht with rfl | ht
    · exact okS_shown x h.1
    · exact okS_showns xs h.2 t ht
end
theorem gd_shown {p : PyData} (h : gd p = true) : gd (.str p.shown) = true := by
  simp only [gd, Array.all_eq_true_iff_forall_mem, decide_eq_true_eq]
  intro c hc
  exact okS_shown p h c (Array.mem_toList_iff.mpr hc)
end PV
end

section
/-! isqrt; zip of two tuples; x in a list. -/
namespace PV
open PySem PySem.Spec PyProof.Rows L2
section
variable {X : Cx}
def rIsqrt : List V → Hp → VK → Prop := fun vs H Q => ∃ a : Int, vs = [.int a] ∧ 0 ≤ a ∧ a.natAbs.log2 < 13000 ∧ Q (.int ((Float64.isqrt a.toNat : Nat) : Int)) H
theorem cr_isqrt : CallR X (.builtin "math.isqrt") rIsqrt := by
  intro pins s σ H vs us Q I r h
  obtain ⟨a, rfl, h0, hl, q⟩ := h
  cases r with
  | cons r t =>
    cases t
    obtain ⟨t, rfl⟩ := r
    have e : a.toNat = a.natAbs := by omega
    exact call_function_meets PySem.W.MGF.kind_isqrt PySem.W.MGF.plain_isqrt PySem.W.MGF.entry_isqrt (PySem.W.MGF.args_isqrt _) (PySem.W.mg_run_isqrt a t (by omega) (by rw [e]; omega) (by rw [e]; omega)).meets ⟨.int _, H, I.tok _, ⟨_, rfl⟩, q⟩
def fIsqrt (_ : Sto) (xs : List D) : Option D := match xs with
  | [.int a] => if 0 ≤ a ∧ a.natAbs.log2 < 13000 then some (.int ((Float64.isqrt a.toNat : Nat) : Int)) else none
  | _ => none
theorem cs_isqrt : CallS X.K rIsqrt fIsqrt := by
  intro H d st xs vs z Q r hxs e q
  unfold fIsqrt at e
  split at e
  · split at e
    · rename_i h
      cases e
      cases hxs with
      | cons h1 h2 =>
        cases h2; cases h1
        exact ⟨_, rfl, h.1, h.2, q _ H (Same.refl H) (.int _)⟩
    · cases e
  · cases e
/-- in a list of data -/
def dIn (st : Sto) (x y : D) : Option D := match dat st x, dat st y with
  | some p, some (.list qs) => some (.bl (qs.any fun z => PyData.eqv z p))
  | _, _ => none
theorem os_in : OpS X.K (rInD X.K) dIn := by
  intro H d st x y v w z Q r hx hy e q
  unfold dIn at e
  split at e
  · rename_i p qs e1 e2
    cases e
    obtain ⟨h1, s1⟩ := dat_of r hx e1
    obtain ⟨h2, s2⟩ := dat_of r hy e2
    exact ⟨p, qs, h1, h2, s1, s2, q _ H (Same.refl H) (.bl _)⟩
  · cases e
def dNotIn (st : Sto) (x y : D) : Option D := match dat st x, dat st y with
  | some p, some (.list qs) => some (.bl (!qs.any fun z => PyData.eqv z p))
  | _, _ => none
theorem os_notIn : OpS X.K (rNotInD X.K) dNotIn := by
  intro H d st x y v w z Q r hx hy e q
  unfold dNotIn at e
  split at e
  · rename_i p qs e1 e2
    cases e
    obtain ⟨h1, s1⟩ := dat_of r hx e1
    obtain ⟨h2, s2⟩ := dat_of r hy e2
    exact ⟨p, qs, h1, h2, s1, s2, q _ H (Same.refl H) (.bl _)⟩
  · cases e
theorem _root_.L2.Room.u65 {k : Nat} {A : Around} (r : Room k A) : A.units + 65 < cLine := by
  have := r.u66
  omega
end
section
variable {K : PySem.W.Frag} {H : Hp} {d : Dm} {a b p q : Addr} {vs ws : List V} {xs ys : List D}
theorem walk_zipT {us zs : List V} {n : Nat} (hn : n = min us.length zs.length) : Walk (RZ.ItzT K a b) n (fun H => SqT K H a us ∧ SqT K H b zs) (YPair (fun i => us[i]?) (fun i => zs[i]?)) := by
  subst hn
  refine ⟨fun i _ hi q => ?_, fun _ q => ⟨us, zs, q.1, q.2, by omega⟩, fun i H v H' _ q y => ?_⟩
  · have h1 : i < us.length := by omega
    have h2 : i < zs.length := by omega
    exact ⟨us, zs, us[i], zs[i], q.1, q.2, by simp [h1], by simp [h2]⟩
  · obtain ⟨T, x, z, h1, h2, h3, h4, h5⟩ := y
    exact ⟨T, x, z, h1, h2, h3, h4 us q.1, h5 zs q.2⟩
theorem src_zipT (hs : ∀ H' d', Ext H d H' d' → SqT K H' p vs) (ht : ∀ H' d', Ext H d H' d' → SqT K H' q ws) (hr : RepL K H d vs xs) (hq : RepL K H d ws ys) : Src K (RZ.ItzT K p q) H d (zipD xs ys) := by
  refine ⟨_, _, by rw [show (zipD xs ys).length = min vs.length ws.length by simp [zipD, hr.length, hq.length]]; exact walk_zipT (K := K) (a := p) (b := q) (us := vs) (zs := ws) rfl, fun H' d' e => And.intro (hs H' d' e) (ht H' d' e), fun i H1 x' H' d1 st hi e r y => ?_⟩
  obtain ⟨T, x, z, rfl, hT, rfl, hx, hz⟩ := y
  obtain ⟨x1, h1, h2⟩ := hr.getV hx
  obtain ⟨z1, h3, h4⟩ := hq.getV hz
  refine ⟨.tup [x1, z1], ?_, rep_newT r hT (.cons (h2.over e) (.cons (h4.over e) .nil)), same_upd hT⟩
  unfold zipD
  rw [List.getElem?_map, (List.getElem?_zip_eq_some (z := (x1, z1))).mpr ⟨h1, h3⟩]; rfl
theorem tup_of {v : V} (h : Rep K H d v (.tup xs)) : ∃ q vs, v = .ref q ∧ (∀ H' d', Ext H d H' d' → SqT K H' q vs) ∧ RepL K H d vs xs := by
  cases h with
  | tup h1 h2 => exact ⟨_, _, rfl, fun H' d' e => (h1.ext e).sq, h2⟩
end
/-- zip of two lists that stand, of two tuples -/
def zipOf (x y : D) : Option (List D) := match x, y with
  | .tup xs, .tup ys => some (zipD xs ys)
  | x, y => match standsL x, standsL y with
    | some xs, some ys => some (zipD xs ys)
    | _, _ => none
def iZipA (ta : Nv → M (List D)) : Nv → M (List D) := fun nv => bnd (ta nv) fun xs => match xs with
  | [x, y] => fun st => lift (zipOf x y) st
  | _ => bad
section
variable {X : Cx} {W : WX'} {a b : Expr} {tr : Nv → M (List D)} {pos p : Pos}
theorem si_zipA {tpos : Pos} {elts : List Expr} {kk : Nat} (hg : Gl X "zip") (hm : X.mg "zip" = none) (ha : PA X [a, b] (tIA X.fx W tr)) (hs : starEach [a, b] X.env = (false, eval a X.env) :: starEach [b] X.env := by rfl) (hpl : (backTo pos (starEach [b] X.env)).any (·.1) = false := by rfl) :
    PI X (.Tuple elts kk tpos) (.Call (.Name "zip" p) [a, b] [] pos) (tII X.fx W (iZipA tr)) :=
  PI.imp (RZ.pi_zipA hg hm ha hs hpl) fun σ H R h => by
    obtain ⟨d, nv, st, r0, n0, q⟩ := h
    refine (rdg_bnd r0 n0 q).mono fun xs st1 H1 d1 ⟨r1, n1, e1, q1⟩ vs hv => ?_
    cases hv with
    | nil => exact False.elim q1
    | @cons v vs x xs hx hxs =>
      cases hxs with
      | nil => exact False.elim q1
      | @cons w ws y ys hy hys =>
        cases hys with
        | cons _ _ => exact False.elim q1
        | nil =>
          obtain ⟨zs, hz, q3⟩ := aft_lift q1
          unfold zipOf at hz
          split at hz
          · cases hz
            obtain ⟨q', vs', rfl, h1, h2⟩ := tup_of hx
            obtain ⟨q2, ws', rfl, h3, h4⟩ := tup_of hy
            exact ⟨q', q2, vs', ws', rfl, Or.inr ⟨h1 _ _ (Ext.refl _ _), h3 _ _ (Ext.refl _ _), q3 H1 d1 (Ext.refl _ _) r1 _ (src_zipT h1 h3 h2 h4)⟩⟩
          · split at hz
            · rename_i us zs' e2 e3
              cases hz
              obtain ⟨q', vs', rfl, h1, h2⟩ := standsL_of hx e2
              obtain ⟨q2, ws', rfl, h3, h4⟩ := standsL_of hy e3
              exact ⟨q', q2, vs', ws', rfl, Or.inl ⟨h1 _ _ (Ext.refl _ _), h3 _ _ (Ext.refl _ _), q3 H1 d1 (Ext.refl _ _) r1 _ (src_zip h1 h3 h2 h4)⟩⟩
            · cases hz
end
end PV
end

section
/-! Chains of comparisons; a list's own methods. -/
namespace PV
open PySem PySem.Spec PyProof.Rows L2
section
variable {X : Cx} {W : WX'} {a b c e : Expr} {ta tb tc : Tm} {pos : Pos}
def cChain (f g : Sto → D → D → Option D) (ta tb tc : Tm) : Tm := fun nv => bnd (ta nv) fun x => bnd (tb nv) fun y => bnd (fun st => lift (f st x y) st) fun z => match z with
  | .bl true => bnd (tc nv) fun w st => lift (g st y w) st
  | .bl false => ret (.bl false)
  | _ => bad
theorem chain_of {r r' : R2} {f g : Sto → D → D → Option D} {σ : L2.St} {H : Hp} {Q : VK} (hf : OpS X.K r f) (hg : OpS X.K r' g) (h : tI X.fx W (cChain f g ta tb tc) σ H Q) :
    tChain r r' (tI X.fx W ta) (tI X.fx W tb) (tI X.fx W tc) σ H Q := by
  obtain ⟨d, nv, st, r0, n0, q⟩ := h
  refine (rdg_bnd r0 n0 q).mono fun x st1 H1 d1 ⟨r1, n1, e1, q1⟩ v hv => ?_
  refine (rdg_bnd r1 n1 q1).mono fun y st2 H2 d2 ⟨r2, n2, e2, q2⟩ w hw => ?_
  cases ez : f st2 x y with
  | none =>
    rw [show bnd (fun st => lift (f st x y) st) (fun z => match z with
      | .bl true => bnd (tc nv) fun w st => lift (g st y w) st
      | .bl false => ret (.bl false)
      | _ => bad) st2 = .bad by unfold bnd; simp only [ez]; rfl] at q2
    exact False.elim q2
  | some z =>
    rw [show bnd (fun st => lift (f st x y) st) (fun z => match z with
      | .bl true => bnd (tc nv) fun w st => lift (g st y w) st
      | .bl false => ret (.bl false)
      | _ => bad) st2 = (match z with
      | .bl true => bnd (tc nv) fun w st => lift (g st y w) st
      | .bl false => ret (.bl false)
      | _ => bad) st2 by unfold bnd; simp only [ez]; rfl] at q2
    refine hf H2 d2 st2 x y v w z _ r2 (hv.ext e2) hw ez fun u H3 s hz => ?_
    cases z with
    | bl k =>
      cases hz
      have e3 : Ext H2 d2 H3 d2 := Ext.same s
      have r3 := r2.same s
      have n3 := n2.ext e3
      refine ⟨k, rfl, ?_⟩
      cases k with
      | true =>
        refine iteT ?_
        have q3 : Aft X.fx (Wat W σ) H3 d2 (bnd (tc nv) (fun w st => lift (g st y w) st) st2) (fun x _ H' d' => ∀ v, Rep X.fx.K H' d' v x → Q v H') := Aft.ext e3 q2
        refine (rdg_bnd r3 n3 q3).mono fun w' st4 H4 d4 ⟨r4, n4, e4, q4⟩ u hu => ?_
        obtain ⟨z', hd, q5⟩ := aft_lift q4
        exact hg H4 d4 st4 y w' w u z' Q r4 ((hw.ext e3).ext e4) hu hd fun u' H' s' hz' => aft_same q5 r4 s' u' hz'
      | false => exact iteF (aft_ret (Aft.ext e3 q2) r3 _ (.bl false))
    | _ => exact False.elim q2
theorem se_chain {op op' : CmpOp} {r r' : R2} {f g : Sto → D → D → Option D} (ho : OpR X (compareOp op) r) (ho' : OpR X (compareOp op') r') (hf : OpS X.K r f) (hg : OpS X.K r' g) (ha : PE X a (tI X.fx W ta)) (hb : PE X b (tI X.fx W tb)) (hc : PE X c (tI X.fx W tc))
    (hm : lastMarks [op, op'] [b, c] = false := by with_unfolding_all rfl) : PE X (.Compare a [op, op'] [b, c] pos) (tI X.fx W (cChain f g ta tb tc)) :=
  PE.imp (pe_chain ho ho' ha hb hc hm) fun _ _ _ h => chain_of hf hg h
theorem st_chain {op op' : CmpOp} {r r' : R2} {f g : Sto → D → D → Option D} (ho : OpR X (compareOp op) r) (ho' : OpR X (compareOp op') r') (hf : OpS X.K r f) (hg : OpS X.K r' g) (ha : PE X a (tI X.fx W ta)) (hb : PE X b (tI X.fx W tb)) (hc : PE X c (tI X.fx W tc))
    (hm : lastMarks [op, op'] [b, c] = false := by with_unfolding_all rfl) : PT X (.Compare a [op, op'] [b, c] pos) (tIT X.fx W (tB' (cChain f g ta tb tc))) :=
  PT.imp (pt_chain ho ho' ha hb hc hm) fun σ H Q h => chain_of hf hg (tB_of h)
/-! ### methods of a list of our own -/
def MtS (K : PySem.W.Frag) (r : V → List V → Hp → VK → Prop) (f : Sto → List D → List D → Option (D × List D)) : Prop := ∀ (H : Hp) (d : Dm) (st : Sto) (p : Addr) (ws : List V) (ds : List D) (vs : List V) (xs : List D) (y : D) (ds' : List D) (Q : VK),
  Rl K H d st → H p = some (.lst ws) → RepL K H d ws ds → RepL K H d vs xs → f st ds xs = some (y, ds') → (∀ u ws', Rep K H d u y → RepL K H d ws' ds' → Q u (upd H p (.lst ws'))) → r (.ref p) vs H Q
/-- the list that is ours, its method's arguments, what it tells and what becomes of the list -/
def mtO (f : Sto → List D → List D → Option (D × List D)) (n : Nat) (xs : List D) : M D := fun st => match st[n]? with
  | some (.lst ds) => match f st ds xs with
    | some (y, ds') => .ok y (st.set n (.lst ds'))
    | none => .bad
  | _ => .bad
def refO (o : D) : M Nat := fun st => match o with
  | .ref n => match st[n]? with
    | some (.lst _) => .ok n st
    | _ => .bad
  | _ => .bad
def cMt (f : Sto → List D → List D → Option (D × List D)) (to : Tm) (tr : Nv → M (List D)) : Tm := fun nv => bnd (to nv) fun o => bnd (refO o) fun n => bnd (tr nv) fun xs => mtO f n xs
theorem mt_of {r : V → List V → Hp → VK → Prop} {f : Sto → List D → List D → Option (D × List D)} {to : Tm} {tr : Nv → M (List D)} {σ : L2.St} {H : Hp} {Q : VK} (hf : MtS X.K r f) (h : tI X.fx W (cMt f to tr) σ H Q) :
    tBM X.K "list" r (tI X.fx W to) (tIA X.fx W tr) σ H Q := by
  obtain ⟨d, nv, st, r0, n0, q⟩ := h
  refine (rdg_bnd r0 n0 q).mono fun o st1 H1 d1 ⟨r1, n1, e1, q1⟩ v hv => ?_
  cases o with
  | ref m =>
    cases e5 : st1[m]? with
    | none =>
      rw [show bnd (refO (.ref m)) (fun n => bnd (tr nv) fun xs => mtO f n xs) st1 = .bad by unfold bnd refO; simp only [e5]] at q1
      exact False.elim q1
    | some so =>
      cases so with
      | dic _ =>
        rw [show bnd (refO (.ref m)) (fun n => bnd (tr nv) fun xs => mtO f n xs) st1 = .bad by unfold bnd refO; simp only [e5]] at q1
        exact False.elim q1
      | lst ds =>
        rw [show bnd (refO (.ref m)) (fun n => bnd (tr nv) fun xs => mtO f n xs) st1 = bnd (tr nv) (fun xs => mtO f m xs) st1 by unfold bnd refO; simp only [e5]] at q1
        cases hv with
        | @ref p _ hp =>
          obtain ⟨p', hp', vs, h5, h6⟩ := r1.at' m _ e5
          rw [hp] at hp'; cases hp'
          refine ⟨.inl ⟨rfl, vs, SqL.of h5⟩, ?_⟩
          refine (rdg_bnd r1 n1 q1).mono fun xs st2 H2 d2 ⟨r2, n2, e2, q2⟩ ws hws => ?_
          cases e6 : st2[m]? with
          | none =>
            rw [show mtO f m xs st2 = .bad by unfold mtO; simp only [e6]] at q2
            exact False.elim q2
          | some so2 =>
            cases so2 with
            | dic _ =>
              rw [show mtO f m xs st2 = .bad by unfold mtO; simp only [e6]] at q2
              exact False.elim q2
            | lst es =>
              cases e7 : f st2 es xs with
              | none =>
                rw [show mtO f m xs st2 = .bad by unfold mtO; simp only [e6, e7]] at q2
                exact False.elim q2
              | some yz =>
                obtain ⟨y, ds'⟩ := yz
                rw [show mtO f m xs st2 = .ok y (st2.set m (.lst ds')) by unfold mtO; simp only [e6, e7]] at q2
                have hp2 := e2.get hp
                obtain ⟨p', hp', us, h7, h8⟩ := r2.at' m _ e6
                rw [hp2] at hp'; cases hp'
                refine hf H2 d2 st2 p us es ws xs y ds' Q r2 h7 h8 hws e7 fun u ws' hu hw' => ?_
                obtain ⟨e8, r8⟩ := set_own r2 hp2 hw'
                exact q2 _ d2 e8 r8 u (hu.ext e8)
  | _ => exact False.elim q1
def mPop (_ : Sto) (ds xs : List D) : Option (D × List D) := match xs with
  | [] => (ds[ds.length - 1]?).map fun y => (y, ds.dropLast)
  | _ => none
theorem ms_pop : MtS X.K rPop mPop := by
  intro H d st p ws ds vs xs y ds' Q r hp hr hx e q
  unfold mPop at e
  split at e
  · obtain ⟨z, hz, e2⟩ := Option.map_eq_some_iff.mp e
    cases e2
    cases hx
    rw [← hr.length] at hz
    obtain ⟨u, h1, h2⟩ := hr.get hz
    refine ⟨p, ws, u, rfl, rfl, hp, h1, q _ _ h2 ?_⟩
    rw [List.dropLast_eq_take, List.dropLast_eq_take, hr.length]
    exact hr.take _
  · cases e
def mPopAt (_ : Sto) (ds xs : List D) : Option (D × List D) := match xs with
  | [.int i] => if -(2 ^ 63) ≤ i ∧ i < 2 ^ 63 then (match seqIndex? i ds.length with
    | some k => (ds[k]?).map fun y => (y, ds.eraseIdx k)
    | none => none) else none
  | _ => none
theorem eraseL {K : PySem.W.Frag} {H : Hp} {d : Dm} : ∀ {ws : List V} {ds : List D} (k : Nat), RepL K H d ws ds → RepL K H d (ws.eraseIdx k) (ds.eraseIdx k)
  | _, _, _, .nil => .nil
  | _, _, 0, .cons _ r => r
  | _, _, k + 1, .cons h r => .cons h (eraseL k r)
theorem ms_popAt : MtS X.K rPopAt mPopAt := by
  intro H d st p ws ds vs xs y ds' Q r hp hr hx e q
  unfold mPopAt at e
  split at e
  · split at e
    · rename_i hi
      split at e
      · rename_i k hk
        obtain ⟨z, hz, e2⟩ := Option.map_eq_some_iff.mp e
        cases e2
        cases hx with
        | cons h1 h2 =>
          cases h2; cases h1
          obtain ⟨u, h1, h2⟩ := hr.get hz
          exact ⟨p, ws, _, k, u, rfl, rfl, hp, hi.1, hi.2, by rw [hr.length]; exact hk, h1, q _ _ h2 (eraseL k hr)⟩
      · cases e
    · cases e
  · cases e
def mExt (st : Sto) (ds xs : List D) : Option (D × List D) := match xs with
  | [.ref m] => match st[m]? with
    | some (.lst es) => if ds.length + es.length ≤ sizeLine then some (.non, ds ++ es) else none
    | _ => none
  | [.lst es] => if ds.length + es.length ≤ sizeLine then some (.non, ds ++ es) else none
  | _ => none
theorem ms_ext : MtS X.K rExtend mExt := by
  intro H d st p ws ds vs xs y ds' Q r hp hr hx e q
  unfold mExt at e
  split at e
  · rename_i m
    split at e
    · rename_i es e5
      split at e
      · rename_i hl
        cases e
        cases hx with
        | cons h1 h2 =>
          cases h2
          cases h1 with
          | @ref p2 _ hp2 =>
            obtain ⟨p', hp', us, h5, h6⟩ := r.at' m _ e5
            rw [hp2] at hp'; cases hp'
            exact ⟨p, p2, ws, us, rfl, rfl, hp, h5, by rw [hr.length, h6.length]; exact hl, q _ _ .non (hr.append h6)⟩
      · cases e
    · cases e
  · rename_i es
    split at e
    · rename_i hl
      cases e
      cases hx with
      | cons h1 h2 =>
        cases h2
        cases h1 with
        | lst h3 h4 => exact ⟨p, _, ws, _, rfl, rfl, hp, h3.1, by rw [hr.length, h4.length]; exact hl, q _ _ .non (hr.append h4)⟩
    · cases e
  · cases e
def mRev (_ : Sto) (ds xs : List D) : Option (D × List D) := match xs with
  | [] => some (.non, ds.reverse)
  | _ => none
theorem ms_rev : MtS X.K rReverse mRev := by
  intro H d st p ws ds vs xs y ds' Q r hp hr hx e q
  unfold mRev at e
  split at e
  · cases e
    cases hx
    exact ⟨p, ws, rfl, rfl, hp, q _ _ .non hr.reverse⟩
  · cases e
variable {es : List Expr} {to : Tm} {tr : Nv → M (List D)} {o : Expr} {name : Str} {id : String} {apos cpos : Pos} {r : V → List V → Hp → VK → Prop} {f : Sto → List D → List D → Option (D × List D)}
theorem nilA {σ : L2.St} {H : Hp} {Q : List V → Hp → Prop} (h : tIA X.fx W aNil σ H Q) : Q [] H := by
  obtain ⟨d, nv, st, r, n, q⟩ := h
  exact aft_ret q r [] .nil
theorem tI_mono {σ : L2.St} {H : Hp} {Q Q' : VK} {t : Tm} (h : tI X.fx W t σ H Q) (i : ∀ v H', Q v H' → Q' v H') : tI X.fx W t σ H Q' :=
  Rdg.mono h fun _ _ _ _ k v hv => i v _ (k v hv)
/-- x.m(..) -/
theorem se_mt0 (slot : Slot "list" name id) (hty : typeOf (.builtin id) = pure (.type "method_descriptor")) (hm : MtR X id r) (hf : MtS X.K r f) (ho : PE X o (tI X.fx W to))
    (hbase : attributeBase o name X.env (eval o X.env) = eval o X.env := by rfl) (hline : (apos.endLine == cpos.line) = true := by rfl) : PE X (.Call (.Attribute o name apos) [] [] cpos) (tI X.fx W (cMt f to aNil)) :=
  PE.imp (pe_bm0 PySem.F.plainAttrs_list slot hty hm ho hbase hline) fun σ H Q h => by
    exact tI_mono (mt_of (r := r) hf h) fun v H' k => ⟨k.1, nilA k.2⟩
theorem se_mt (slot : Slot "list" name id) (hty : typeOf (.builtin id) = pure (.type "method_descriptor")) (hm : MtR X id r) (hf : MtS X.K r f) (ho : PE X o (tI X.fx W to)) (ha : PA X (e :: es) (tIA X.fx W tr))
    (hbase : attributeBase o name X.env (eval o X.env) = eval o X.env := by rfl)
    (hfew : ((backTo cpos (starEach (e :: es) X.env)).all (fun x => !x.1) && (backToKw cpos (keywordEach [] X.env)).all (fun x => x.1.isSome)
      && decide ((e :: es).length + ([] : List Keyword).length + (if ([] : List Keyword).isEmpty then 0 else 1) < 30)) = true := by rfl)
    (hline : (apos.endLine == cpos.line) = true := by rfl) (hs : starEach (e :: es) X.env = (false, eval e X.env) :: starEach es X.env := by rfl) (hplain : (backTo cpos (starEach es X.env)).any (·.1) = false := by rfl) :
    PE X (.Call (.Attribute o name apos) (e :: es) [] cpos) (tI X.fx W (cMt f to tr)) :=
  PE.imp (pe_bm PySem.F.plainAttrs_list slot hty hm ho ha hbase hfew hline hs hplain) fun _ _ _ h => mt_of hf h
theorem mr_pop : MtR X "list.pop" rPop := mt_pop
theorem mr_popAt : MtR X "list.pop" rPopAt := mt_popAt
theorem mr_ext : MtR X "list.extend" rExtend := mt_extend
theorem mr_rev : MtR X "list.reverse" rReverse := mt_reverse
end
end PV
end

section
/-! Truths by `is`; methods of texts; a text so many times. -/
namespace PV
open PySem PySem.Spec PyProof.Rows L2
section
variable {X : Cx} {W : WX'} {a b c e : Expr} {ta tb tc : Tm} {pos : Pos}
def dIsB (_ : Sto) (x y : D) : Option D := match x, y with
  | .bl a, .bl b => some (.bl (decide (a = b)))
  | _, _ => none
theorem os_isB : OpS X.K rIsB dIsB := by
  intro H d st x y v w z Q r hx hy e q
  unfold dIsB at e
  split at e
  · cases e; cases hx; cases hy
    exact ⟨_, _, rfl, rfl, q _ H (Same.refl H) (.bl _)⟩
  · cases e
def dNotB (_ : Sto) (x y : D) : Option D := match x, y with
  | .bl a, .bl b => some (.bl (!decide (a = b)))
  | _, _ => none
theorem os_notB : OpS X.K rNotB dNotB := by
  intro H d st x y v w z Q r hx hy e q
  unfold dNotB at e
  split at e
  · cases e; cases hx; cases hy
    exact ⟨_, _, rfl, rfl, q _ H (Same.refl H) (.bl _)⟩
  · cases e
/-! a text so many times -/
def repS (x : Str) (n : Int) : Str := if n < 1 then Str.empty else if (n == 1 || x.length == 0) = true then x else ⟨(List.replicate n.toNat x.cps).foldl (· ++ ·) #[]⟩
def CRepS (x : Str) (n : Int) : Prop := -1000000 ≤ n ∧ n ≤ 1000000 ∧ x.length * n.toNat ≤ 16777216
def rRepS : R2 := fun x y H Q => ∃ z n, x = .str z ∧ y = .int n ∧ CRepS z n ∧ Q (.str (repS z n)) H
theorem tl {n : Nat} (h : n ≤ 16777216) : Builtin.Str.tooLong n = false := decide_eq_false (by show ¬ (16777216 < n); omega)
theorem op_repS : OpR X (binaryOp .Mult) rRepS := by
  intro pins s σ H x y v u Q I rx ry h
  obtain ⟨z, n, rfl, rfl, ⟨h1, h2, h3⟩, q⟩ := h
  obtain ⟨t, rfl⟩ := rx
  obtain ⟨t2, rfl⟩ := ry
  refine P.mul_str ?_ (fun hn h0 => ?_) (fun hn h0 => ?_) ?_
  · rw [decide_eq_false (by omega), decide_eq_false (by omega)]; rfl
  · have h5 : z.length ≤ 16777216 := by
      have : 1 ≤ n.toNat := by omega
      have := Nat.mul_le_mul_left z.length this
      omega
    have h6 : (9223372036854 : Int) ≤ (2 ^ 63 - 1) / n := Int.le_ediv_of_mul_le (by omega) (by omega)
    omega
  · exact tl h3
  · unfold repS at q
    by_cases hn : n < 1
    · rw [if_pos hn] at q ⊢
      exact ⟨by decide, ⟨.str _, H, I.tok _, ⟨_, rfl⟩, q⟩⟩
    · rw [if_neg hn] at q ⊢
      by_cases h0 : (n == 1 || z.length == 0) = true
      · rw [if_pos h0] at q ⊢
        exact ⟨.str _, H, I, ⟨_, rfl⟩, q⟩
      · rw [if_neg h0] at q ⊢
        refine ⟨?_, ⟨.str _, H, I.tok _, ⟨_, rfl⟩, q⟩⟩
        exact fits_reps (tl h3)
def dRepS (_ : Sto) (x y : D) : Option D := match x, y with
  | .str z, .int n => if -1000000 ≤ n ∧ n ≤ 1000000 ∧ z.length * n.toNat ≤ 16777216 then some (.str (repS z n)) else none
  | _, _ => none
theorem os_repS : OpS X.K rRepS dRepS := by
  intro H d st x y v w z Q r hx hy e q
  unfold dRepS at e
  split at e
  · split at e
    · rename_i h
      cases e; cases hx; cases hy
      exact ⟨_, _, rfl, rfl, h, q _ H (Same.refl H) (.str _)⟩
    · cases e
  · cases e
/-! ### methods of texts -/
def MsS (K : PySem.W.Frag) (r : V → List V → Hp → VK → Prop) (f : Sto → Str → List D → Option D) : Prop := ∀ (H : Hp) (d : Dm) (st : Sto) (z : Str) (vs : List V) (xs : List D) (y : D) (Q : VK),
  Rl K H d st → RepL K H d vs xs → f st z xs = some y → (∀ u H', Same H H' → Rep K H' d u y → Q u H') → r (.str z) vs H Q
def strO (o : D) : M Str := match o with
  | .str z => ret z
  | _ => bad
def cMs (f : Sto → Str → List D → Option D) (to : Tm) (tr : Nv → M (List D)) : Tm := fun nv => bnd (to nv) fun o => bnd (strO o) fun z => bnd (tr nv) fun xs => fun st => lift (f st z xs) st
theorem ms_of {r : V → List V → Hp → VK → Prop} {f : Sto → Str → List D → Option D} {to : Tm} {tr : Nv → M (List D)} {σ : L2.St} {H : Hp} {Q : VK} (hf : MsS X.K r f) (h : tI X.fx W (cMs f to tr) σ H Q) :
    tBM X.K "str" r (tI X.fx W to) (tIA X.fx W tr) σ H Q := by
  obtain ⟨d, nv, st, r0, n0, q⟩ := h
  refine (rdg_bnd r0 n0 q).mono fun o st1 H1 d1 ⟨r1, n1, e1, q1⟩ v hv => ?_
  cases o with
  | str z =>
    cases hv
    refine ⟨rfl, ?_⟩
    have q1 : Aft X.fx (Wat W σ) H1 d1 (bnd (tr nv) (fun xs => fun st => lift (f st z xs) st) st1) _ := q1
    refine (rdg_bnd r1 n1 q1).mono fun xs st2 H2 d2 ⟨r2, n2, e2, q2⟩ ws hws => ?_
    obtain ⟨y, hy, q3⟩ := aft_lift q2
    exact hf H2 d2 st2 z ws xs y Q r2 hws hy fun u H' s hz => aft_same q3 r2 s u hz
  | _ => exact False.elim q1
def strsD : List D → Option (List Str)
  | [] => some []
  | .str z :: r => (strsD r).map (z :: ·)
  | _ :: _ => none
theorem strs_of {K : PySem.W.Frag} {H : Hp} {d : Dm} : ∀ {vs : List V} {xs : List D} {ys : List Str}, RepL K H d vs xs → strsD xs = some ys → vs = ys.map V.str
  | _, _, _, .nil, e => by cases e; rfl
  | _, _, _, .cons (x := x) h r, e => by
    cases x with
    | str z =>
      simp only [strsD] at e
      obtain ⟨zs, hz, rfl⟩ := Option.map_eq_some_iff.mp e
      cases h
      rw [strs_of r hz]; rfl
    | _ => cases e
/-- what may be walked: its items, told where they stand -/
theorem seq_of {K : PySem.W.Frag} {H : Hp} {d : Dm} {st : Sto} {v : V} {x : D} {ds : List D} (r : Rl K H d st) (h : Rep K H d v x) (e : items st x = some ds) : ∃ p vs, v = .ref p ∧ (SqL K H p vs ∨ SqT K H p vs) ∧ RepL K H d vs ds := by
  cases x with
  | lst xs =>
    cases e
    obtain ⟨q, vs, rfl, h1, h2⟩ := standsL_of h rfl
    exact ⟨q, vs, rfl, .inl (h1 _ _ (Ext.refl _ _)), h2⟩
  | ro xs =>
    cases e
    obtain ⟨q, vs, rfl, h1, h2⟩ := standsL_of h rfl
    exact ⟨q, vs, rfl, .inl (h1 _ _ (Ext.refl _ _)), h2⟩
  | tup xs =>
    cases e
    obtain ⟨q, vs, rfl, h1, h2⟩ := tup_of h
    exact ⟨q, vs, rfl, .inr (h1 _ _ (Ext.refl _ _)), h2⟩
  | ref n =>
    have e : (match st[n]? with
      | some (.lst ds) => some ds
      | _ => none) = some ds := e
    cases e5 : st[n]? with
    | none => rw [e5] at e; cases e
    | some so =>
      cases so with
      | dic _ => rw [e5] at e; cases e
      | lst es =>
        rw [e5] at e
        cases e
        cases h with
        | @ref p _ hp =>
          obtain ⟨p', hp', vs, h5, h6⟩ := r.at' n _ e5
          rw [hp] at hp'; cases hp'
          exact ⟨p, vs, rfl, .inl (SqL.of h5), h6⟩
  | _ => cases e
def rJoin (K : PySem.W.Frag) : V → List V → Hp → VK → Prop := fun x xs H Q => ∃ a p, ∃ ys : List Str, x = .str a ∧ xs = [.ref p] ∧ (SqL K H p (ys.map V.str) ∨ SqT K H p (ys.map V.str)) ∧
    (ys.map (·.length)).sum + ys.length * a.length ≤ 16777216 ∧ Q (.str (Txt.join a ys)) H
theorem mr_join : MtR X "str.join" (rJoin X.K) := mt_join
def fJoin (st : Sto) (z : Str) (xs : List D) : Option D := match xs with
  | [x] => match items st x with
    | some ds => match strsD ds with
      | some ys => if (ys.map (·.length)).sum + ys.length * z.length ≤ 16777216 then some (.str (Txt.join z ys)) else none
      | none => none
    | none => none
  | _ => none
theorem ms_join : MsS X.K (rJoin X.K) fJoin := by
  intro H d st z vs xs y Q r hx e q
  unfold fJoin at e
  split at e
  · split at e
    · rename_i ds e1
      split at e
      · rename_i ys e2
        split at e
        · rename_i hl
          cases e
          cases hx with
          | cons h1 h2 =>
            cases h2
            obtain ⟨p, us, rfl, hs, hr⟩ := seq_of r h1 e1
            have := strs_of hr e2
            subst this
            exact ⟨z, p, ys, rfl, rfl, hs, hl, q _ H (Same.refl H) (.str _)⟩
        · cases e
      · cases e
    · cases e
  · cases e
variable {es : List Expr} {to : Tm} {tr : Nv → M (List D)} {o : Expr} {name : Str} {id : String} {apos cpos : Pos} {r : V → List V → Hp → VK → Prop} {f : Sto → Str → List D → Option D}
theorem se_ms0 (slot : Slot "str" name id) (hty : typeOf (.builtin id) = pure (.type "method_descriptor")) (hm : MtR X id r) (hf : MsS X.K r f) (ho : PE X o (tI X.fx W to))
    (hbase : attributeBase o name X.env (eval o X.env) = eval o X.env := by rfl) (hline : (apos.endLine == cpos.line) = true := by rfl) : PE X (.Call (.Attribute o name apos) [] [] cpos) (tI X.fx W (cMs f to aNil)) :=
  PE.imp (pe_bm0 PySem.F.plainAttrs_str slot hty hm ho hbase hline) fun σ H Q h => by
    exact tI_mono (ms_of (r := r) hf h) fun v H' k => ⟨k.1, nilA k.2⟩
theorem se_ms (slot : Slot "str" name id) (hty : typeOf (.builtin id) = pure (.type "method_descriptor")) (hm : MtR X id r) (hf : MsS X.K r f) (ho : PE X o (tI X.fx W to)) (ha : PA X (e :: es) (tIA X.fx W tr))
    (hbase : attributeBase o name X.env (eval o X.env) = eval o X.env := by rfl)
    (hfew : ((backTo cpos (starEach (e :: es) X.env)).all (fun x => !x.1) && (backToKw cpos (keywordEach [] X.env)).all (fun x => x.1.isSome)
      && decide ((e :: es).length + ([] : List Keyword).length + (if ([] : List Keyword).isEmpty then 0 else 1) < 30)) = true := by rfl)
    (hline : (apos.endLine == cpos.line) = true := by rfl) (hs : starEach (e :: es) X.env = (false, eval e X.env) :: starEach es X.env := by rfl) (hplain : (backTo cpos (starEach es X.env)).any (·.1) = false := by rfl) :
    PE X (.Call (.Attribute o name apos) (e :: es) [] cpos) (tI X.fx W (cMs f to tr)) :=
  PE.imp (pe_bm PySem.F.plainAttrs_str slot hty hm ho ha hbase hfew hline hs hplain) fun _ _ _ h => ms_of hf h
end
end PV
end

section
/-! In a tuple; strip, upper; insert; constants of the module. -/
namespace PV
open PySem PySem.Spec PyProof.Rows L2
section
variable {X : Cx} {W : WX'}
/-- in a list or a tuple of data -/
def rInT (K : PySem.W.Frag) : R2 := fun x y H Q => ∃ d ds, Dp K H x d ∧ (Dp K H y (.list ds) ∨ Dp K H y (.tuple ds)) ∧ SeqAt.shaped d = true ∧ SeqAt.shaped (.list ds) = true ∧ Q (.bl (ds.any fun z => PyData.eqv z d)) H
theorem shaped_tl {ds : List PyData} : SeqAt.shaped (.tuple ds) = SeqAt.shaped (.list ds) := by
  simp only [SeqAt.shaped, PyData.canLay0, PyData.depth]
  rfl
theorem op_inT (hu : X.A.units + 65 < cLine) : OpR X (compareOp .In) (rInT X.K) := by
  intro pins s σ H x y v u Q I rx ry h
  obtain ⟨d, ds, hd, he, sd, se, q⟩ := h
  obtain ⟨as, r1⟩ := Dp.reads I d x v hd rx
  rcases he with he | he
  · obtain ⟨bs, r2⟩ := Dp.reads I (.list ds) y u he ry
    exact SeqAt.in_list_reads r2 r1 (SeqAt.canLay_of_shaped se) (SeqAt.canLay_of_shaped sd) (room_in_shaped sd hu) ⟨.bl _, H, I, rfl, q⟩
  · obtain ⟨bs, r2⟩ := Dp.reads I (.tuple ds) y u he ry
    exact SeqAt.in_tuple_reads r2 r1 (SeqAt.canLay_of_shaped se) (SeqAt.canLay_of_shaped sd) (room_in_shaped sd hu) ⟨.bl _, H, I, rfl, q⟩
def rNotInT (K : PySem.W.Frag) : R2 := fun x y H Q => ∃ d ds, Dp K H x d ∧ (Dp K H y (.list ds) ∨ Dp K H y (.tuple ds)) ∧ SeqAt.shaped d = true ∧ SeqAt.shaped (.list ds) = true ∧ Q (.bl (!ds.any fun z => PyData.eqv z d)) H
theorem op_notInT (hu : X.A.units + 65 < cLine) : OpR X (compareOp .NotIn) (rNotInT X.K) := by
  intro pins s σ H x y v u Q I rx ry h
  obtain ⟨d, ds, hd, he, sd, se, q⟩ := h
  obtain ⟨as, r1⟩ := Dp.reads I d x v hd rx
  rcases he with he | he
  · obtain ⟨bs, r2⟩ := Dp.reads I (.list ds) y u he ry
    exact SeqAt.notIn_list_reads r2 r1 (SeqAt.canLay_of_shaped se) (SeqAt.canLay_of_shaped sd) (room_in_shaped sd hu) ⟨.bl _, H, I, rfl, q⟩
  · obtain ⟨bs, r2⟩ := Dp.reads I (.tuple ds) y u he ry
    exact SeqAt.notIn_tuple_reads r2 r1 (SeqAt.canLay_of_shaped se) (SeqAt.canLay_of_shaped sd) (room_in_shaped sd hu) ⟨.bl _, H, I, rfl, q⟩
def seqP : PyData → Option (List PyData)
  | .list qs => some qs
  | .tuple qs => some qs
  | _ => none
def dInT (st : Sto) (x y : D) : Option D := match dat st x, dat st y with
  | some p, some q => (seqP q).map fun qs => .bl (qs.any fun z => PyData.eqv z p)
  | _, _ => none
def dNotInT (st : Sto) (x y : D) : Option D := match dat st x, dat st y with
  | some p, some q => (seqP q).map fun qs => .bl (!qs.any fun z => PyData.eqv z p)
  | _, _ => none
theorem seqP_of {K : PySem.W.Frag} {H : Hp} {y : V} {q : PyData} {qs : List PyData} (h : Dp K H y q) (s : SeqAt.shaped q = true) (e : seqP q = some qs) : (Dp K H y (.list qs) ∨ Dp K H y (.tuple qs)) ∧ SeqAt.shaped (.list qs) = true := by
  cases q with
  | list xs => cases e; exact ⟨.inl h, s⟩
  | tuple xs => cases e; exact ⟨.inr h, by rw [← shaped_tl]; exact s⟩
  | _ => cases e
theorem os_inT : OpS X.K (rInT X.K) dInT := by
  intro H d st x y v w z Q r hx hy e q
  unfold dInT at e
  split at e
  · rename_i p p2 e1 e2
    obtain ⟨qs, h3, rfl⟩ := Option.map_eq_some_iff.mp e
    obtain ⟨h1, s1⟩ := dat_of r hx e1
    obtain ⟨h2, s2⟩ := dat_of r hy e2
    obtain ⟨h4, s4⟩ := seqP_of h2 s2 h3
    exact ⟨p, qs, h1, h4, s1, s4, q _ H (Same.refl H) (.bl _)⟩
  · cases e
theorem os_notInT : OpS X.K (rNotInT X.K) dNotInT := by
  intro H d st x y v w z Q r hx hy e q
  unfold dNotInT at e
  split at e
  · rename_i p p2 e1 e2
    obtain ⟨qs, h3, rfl⟩ := Option.map_eq_some_iff.mp e
    obtain ⟨h1, s1⟩ := dat_of r hx e1
    obtain ⟨h2, s2⟩ := dat_of r hy e2
    obtain ⟨h4, s4⟩ := seqP_of h2 s2 h3
    exact ⟨p, qs, h1, h4, s1, s4, q _ H (Same.refl H) (.bl _)⟩
  · cases e
/-! strip, upper -/
def rStripC : V → List V → Hp → VK → Prop := fun x xs H Q => ∃ a b, x = .str a ∧ xs = [.str b] ∧ a.length ≤ sizeLine ∧ Q (.str (Txt.stripChars a b)) H
theorem mr_stripC : MtR X "str.strip" rStripC := mt_stripChars
def fStripC (_ : Sto) (z : Str) (xs : List D) : Option D := match xs with
  | [.str b] => if z.length ≤ sizeLine then some (.str (Txt.stripChars z b)) else none
  | _ => none
theorem ms_stripC : MsS X.K rStripC fStripC := by
  intro H d st z vs xs y Q r hx e q
  unfold fStripC at e
  split at e
  · split at e
    · rename_i hl
      cases e
      cases hx with
      | cons h1 h2 =>
        cases h2; cases h1
        exact ⟨z, _, rfl, rfl, hl, q _ H (Same.refl H) (.str _)⟩
    · cases e
  · cases e
def rUpper : V → List V → Hp → VK → Prop := fun x xs H Q => ∃ a, x = .str a ∧ xs = [] ∧ a.length ≤ 5592405 ∧ Q (.str (Txt.upper a)) H
theorem mr_upper : MtR X "str.upper" rUpper := mt_upper
def fUpper (_ : Sto) (z : Str) (xs : List D) : Option D := match xs with
  | [] => if z.length ≤ 5592405 then some (.str (Txt.upper z)) else none
  | _ => none
theorem ms_upper : MsS X.K rUpper fUpper := by
  intro H d st z vs xs y Q r hx e q
  unfold fUpper at e
  split at e
  · split at e
    · rename_i hl
      cases e; cases hx
      exact ⟨z, rfl, rfl, hl, q _ H (Same.refl H) (.str _)⟩
    · cases e
  · cases e
/-! insert -/
def rInsert : V → List V → Hp → VK → Prop := fun x vs H Q => ∃ (l : Addr) (xs : List V) (i : Int) (y : V), x = .ref l ∧ vs = [.int i, y] ∧ H l = some (.lst xs) ∧ xs.length < sizeLine ∧ 0 ≤ i ∧ i < 2 ^ 63 ∧ Q .non (upd H l (.lst (xs.take i.toNat ++ [y] ++ xs.drop i.toNat)))
theorem mr_insert : MtR X "list.insert" rInsert := mt_insert
def mIns (_ : Sto) (ds xs : List D) : Option (D × List D) := match xs with
  | [.int i, y] => if ds.length < sizeLine ∧ 0 ≤ i ∧ i < 2 ^ 63 then some (.non, ds.take i.toNat ++ [y] ++ ds.drop i.toNat) else none
  | _ => none
theorem ms_ins : MtS X.K rInsert mIns := by
  intro H d st p ws ds vs xs y ds' Q r hp hr hx e q
  unfold mIns at e
  split at e
  · split at e
    · rename_i hl
      cases e
      cases hx with
      | cons h1 h2 =>
        cases h2 with
        | cons h3 h4 =>
          cases h4; cases h1
          exact ⟨p, ws, _, _, rfl, rfl, hp, by rw [hr.length]; exact hl.1, hl.2.1, hl.2.2, q _ _ .non (((hr.take _).append (.cons h3 .nil)).append (hr.drop _))⟩
    · cases e
  · cases e
/-! constants of the module -/
variable {x : Str} {pos : Pos}
theorem se_gint {i : Int} {t : Tok} (hg : Gl X x) (hm : X.mg x = some (.int i t)) (hd : (x == ("__debug__" : Str)) = false := by decide) : PE X (.Name x pos) (tI X.fx W (cC (.int i))) :=
  PE.imp (pe_glob hg hm (v := .int i) ⟨t, rfl⟩ hd) fun σ H Q h => by
    obtain ⟨d, nv, st, r, n, q⟩ := h
    exact aft_ret q r _ (.int i)
/-- a tuple of texts that the module holds -/
structure KTup (K : PySem.W.Frag) (a : Addr) (ys : List Str) : Prop where
  at' : ∀ H, SqT K H a (ys.map V.str)
theorem KTup.of {K : PySem.W.Frag} {a : Addr} {o : Obj} {its : Array Value} {n : Nat} {ys : List Str} (h : K.lookup a = some o) (hc : o.cls = .type "tuple") (hd : o.data = .seq its n) (hs : its.size ≤ sizeLine) (hv : Vals (ys.map V.str) its.toList) : KTup K a ys :=
  ⟨fun _ => .inr ⟨o, its, n, h, hc, hd, hs, hv⟩⟩
theorem repL_strs {K : PySem.W.Frag} {H : Hp} {d : Dm} : ∀ ys : List Str, RepL K H d (ys.map V.str) (ys.map D.str)
  | [] => .nil
  | y :: ys => .cons (.str y) (repL_strs ys)
theorem se_gtup {a : Addr} {ys : List Str} (hg : Gl X x) (hm : X.mg x = some (.ref a)) (h : KTup X.K a ys) (hr : RelV (.ref a) (.ref a)) (hd : (x == ("__debug__" : Str)) = false := by decide) : PE X (.Name x pos) (tI X.fx W (cC (.tup (ys.map .str)))) :=
  PE.imp (pe_glob hg hm (v := .ref a) hr hd) fun σ H Q hh => by
    obtain ⟨d, nv, st, r, n, q⟩ := hh
    exact aft_ret q r _ (.tup (.inr h.at') (repL_strs ys))
end
end PV
end

section
/-! A def called by its parameters' names. -/
namespace PV
open PySem PySem.Spec PyProof.Rows L2
/-- all handed in by names, in the parameters' order -/
def BindsK (K : PySem.W.Frag) (fd : FuncData) (ps : List Str) : Prop := ∀ (s : Shared) (us : List Value), K.In s.heap → us.length = ps.length → BindsTo s fd ⟨[], ps.zip us⟩ (ps.zip us)
theorem bindsK_of {K : PySem.W.Frag} {x qual : Str} {st : Stmt} {f : Addr} {fd : FuncData} {ps : List Str} (F : Fun K x qual st f fd)
    (h : ∀ (kV doc pm : Value) (an : Option Addr) (cdv ct : Value) (us : List Value), us.length = ps.length → bindArgs (PySem.W.fnOf x qual (defArgs st) (defBody st) (defScope st) .none kV doc pm an cdv ct) ⟨[], ps.zip us⟩ = pure (ps.zip us)) : BindsK K fd ps := by
  obtain ⟨oc, od, kV, doc, pm, an, cdv, ct, osl, rfl, lk, hcd⟩ := F.ex
  exact fun s us _ hl => .of_eq (h kV doc pm an cdv ct us hl)
section
variable {X : Cx} {W : WX'} {k : Nat} {f : Addr} {fd : FuncData} {ps : List Str} {m : Fn} {x : Str} {p pos kpos : Pos} {e : Expr} {kws : List Keyword} {ta : Tm} {tr : Nv → M (List D)} {nm : Option Str}
theorem PK.imp {t t' : TA} (h : PK X kws t) (i : ∀ σ H Q, t' σ H Q → t σ H Q) : PK X kws t' := ⟨fun pos pins s σ H Q I q => h.run pos pins s σ H Q I (i σ H Q q)⟩
theorem sk_nil : PK X [] (tIA X.fx W aNil) := by
  refine PK.imp pk_nil fun σ H Q h => ?_
  obtain ⟨d, nv, st, r, n, q⟩ := h
  exact aft_ret q r [] .nil
theorem sk_cons (ha : PE X e (tI X.fx W ta)) (hr : PK X kws (tIA X.fx W tr)) : PK X (⟨nm, e, kpos⟩ :: kws) (tIA X.fx W (aCons ta tr)) := by
  refine PK.imp (pk_cons ha hr) fun σ H Q h => ?_
  obtain ⟨d, nv, st, r0, n0, q⟩ := h
  refine (rdg_bnd r0 n0 q).mono fun x st1 H1 d1 ⟨r1, n1, e1, q1⟩ v hv => ?_
  refine (rdg_bnd r1 n1 q1).mono fun xs st2 H2 d2 ⟨r2, n2, e2, q2⟩ vs hvs => ?_
  exact aft_ret q2 r2 _ (.cons (hv.ext e2) hvs)
theorem se_callK (G : FnG X.prog X.w X.K X.mg X.base k f fd ps m) (hr : Room k X.A) (hgu : X.A.guards = some []) (tk : Takes X W) (hg : Gl X x) (hm : X.mg x = some (.ref f)) (hk : PySem.W.keepIn X.K (.ref f) = true) (hb : BindsK X.K fd ps)
    (hkw : PK X kws (tIA X.fx W tr)) (hall : (backToKw pos (keywordEach kws X.env)).all (·.1.isSome) = true := by rfl) (hks : (backToKw pos (keywordEach kws X.env)).filterMap (·.1) = ps := by rfl)
    (hdb : (x == ("__debug__" : Str)) = false := by decide)
    (hpl : ((backTo pos (starEach [] X.env)).any (·.1) || (backToKw pos (keywordEach kws X.env)).any (·.1.isNone)) = false := by rfl) :
    PE X (.Call (.Name x p) [] kws pos) (tI X.fx W (cCall m tr)) := by
  refine ⟨fun pins s σ H Q I h => ?_⟩
  obtain ⟨d, nv, st, r0, n0, q⟩ := h
  refine wpAny_Call_Name_kw (ld_glob I hg hm ?_ hdb)
  refine PySem.W.callWith_KW0 (h₀ := X.base) I.ok.mod.kin hk hall (thn (hkw.run pos pins s σ H (fun vs H1 => ∃ d1 st1 xs, RepL X.K H1 d1 vs xs ∧ Rl X.K H1 d1 st1 ∧ Aft X.fx (Wat W σ) H1 d1 (m xs st1) fun x _ H' d' => ∀ v, Rep X.K H' d' v x → Q v H') I
    ((rdg_bnd r0 n0 q).mono fun xs st1 H1 d1 q1 vs hv => ⟨d1, st1, xs, hv, q1.1, q1.2.2.2⟩)) fun us s1 ⟨vs, H1, I1, r, d1, st1, xs, hv, r1, q1⟩ => ⟨I1.kIn, ?_⟩) hpl
  rw [hks]
  have hl : us.length = ps.length := by
    by_cases z : xs.length = ps.length
    · rw [← r.length, hv.length]; exact z
    · rw [G.len xs st1 z] at q1
      exact False.elim q1
  have b := hb s1 us I1.kIn hl
  refine wpAny_call (codeAny_mono (G.run X.A X.stack s1 H1 ⟨[], ps.zip us⟩ us vs xs d1 st1 Q (WE W σ) hr hgu I1.env0 b r r1 hv q1) fun r s' hq => ?_)
  cases r with
  | error e => exact passAt tk σ pins H1 s1 e s' I1 hq
  | ok fl =>
    cases fl with
    | ret u => exact I1.after hq
    | next => exact False.elim hq
    | brk => exact False.elim hq
    | cont => exact False.elim hq
/-- f() -/
theorem se_call0 (G : FnG X.prog X.w X.K X.mg X.base k f fd ps m) (hr : Room k X.A) (hgu : X.A.guards = some []) (tk : Takes X W) (hg : Gl X x) (hm : X.mg x = some (.ref f)) (hk : PySem.W.keepIn X.K (.ref f) = true) (hb : Binds X.K fd ps [])
    (hdb : (x == ("__debug__" : Str)) = false := by decide) : PE X (.Call (.Name x p) [] [] pos) (tI X.fx W (cCall m aNil)) := by
  refine ⟨fun pins s σ H Q I h => ?_⟩
  obtain ⟨d, nv, st, r0, n0, q⟩ := h
  have q : Aft X.fx (Wat W σ) H d (m [] st) fun x _ H' d' => ∀ v, Rep X.K H' d' v x → Q v H' := q
  refine wpAny_Call_Name_kw (ld_glob I hg hm ?_ hdb)
  have hl : ([] : List Value).length = ps.length := by
    by_cases z : ([] : List D).length = ps.length
    · exact z
    · rw [G.len [] st z] at q
      exact False.elim q
  refine PySem.W.callWith_K0 I.kIn hk ?_
  have b := hb s [] I.kIn (by rw [List.append_nil]; exact hl)
  rw [List.append_nil] at b
  refine wpAny_call (codeAny_mono (G.run X.A X.stack s H ⟨[], []⟩ [] [] [] d st Q (WE W σ) hr hgu I.env0 b .nil r0 .nil q) fun r s' hq => ?_)
  cases r with
  | error e => exact passAt tk σ pins H s e s' I hq
  | ok fl =>
    cases fl with
    | ret u => exact I.after hq
    | next => exact False.elim hq
    | brk => exact False.elim hq
    | cont => exact False.elim hq
/-- a or b, of new lists -/
def nOr (ta tb : Nv → M (List D)) : Nv → M (List D) := fun nv => bnd (ta nv) fun xs => if xs.isEmpty = true then tb nv else ret xs
theorem sn_one {op : BoolOp} {a : Expr} {tn : Nv → M (List D)} (h : PE X a (tIN X.fx W tn)) : PE X (.BoolOp op [a] pos) (tIN X.fx W tn) := pe_one h
theorem sn_or {a b : Expr} {rest : List Expr} {tn tm : Nv → M (List D)} (ha : PE X a (tIN X.fx W tn)) (hb : PE X (.BoolOp .Or (b :: rest) pos) (tIN X.fx W tm)) : PE X (.BoolOp .Or (a :: b :: rest) pos) (tIN X.fx W (nOr tn tm)) :=
  PE.imp (L2.pe_orT ha hb) fun σ H Q h => by
    obtain ⟨d, nv, st, r0, n0, q⟩ := h
    refine ⟨d, nv, st, r0, n0, ?_⟩
    unfold nOr bnd at q
    cases e : tn nv st with
    | exc x st1 =>
      rw [e] at q
      exact q
    | bad =>
      rw [e] at q
      exact q
    | ok ds st1 =>
      rw [e] at q
      refine fun H' m' p vs e1 hp hv r1 hr => ⟨!vs.isEmpty, .inl ⟨vs, SqL.of hv, rfl⟩, ?_⟩
      have el : vs.isEmpty = ds.isEmpty := by
        cases hr <;> rfl
      by_cases hz : ds.isEmpty = true
      · have q : AftN X.fx (Wat W σ) H d (tm nv st1) Q := by
          have q := q
          simp only [hz, if_true] at q
          exact q
        rw [el, hz]
        refine iteF ?_
        exact ⟨⟨m', d.f⟩, nv, st1, r1.drop, n0.ext e1, AftN.ext e1 r1.drop q⟩
      · have q : AftN X.fx (Wat W σ) H d (.ok ds st1) Q := by
          have q := q
          simp only [hz, if_false] at q
          exact q
        have hz : ds.isEmpty = false := by simpa using hz
        rw [el, hz]
        refine iteT ?_
        exact q H' m' p vs e1 hp hv r1 hr
end
end PV
end

section
/-! Truths among whole numbers: +, -, *. -/
namespace PV
open PySem PySem.Spec PyProof.Rows L2
def tn (b : Bool) : Int := if b = true then 1 else 0
section
variable {X : Cx}
def rT (g : Int → Int → Int) : R2 := fun x y H Q => (∃ a i, x = .bl a ∧ y = .int i ∧ Q (.int (g (tn a) i)) H) ∨ ∃ i b, x = .int i ∧ y = .bl b ∧ Q (.int (g i (tn b))) H
theorem op_addT : OpR X (binaryOp .Add) (rT (· + ·)) := by
  intro pins s σ H x y v u Q I rx ry h
  rcases h with ⟨a, i, rfl, rfl, q⟩ | ⟨i, b, rfl, rfl, q⟩
  · cases rx; obtain ⟨t, rfl⟩ := ry
    exact PySem.IntBool.add_bool_int ⟨.int _, H, I.tok _, ⟨_, rfl⟩, q⟩
  · cases ry; obtain ⟨t, rfl⟩ := rx
    exact add_int_bool ⟨.int _, H, I.tok _, ⟨_, rfl⟩, q⟩
theorem op_subT : OpR X (binaryOp .Sub) (rT (· - ·)) := by
  intro pins s σ H x y v u Q I rx ry h
  rcases h with ⟨a, i, rfl, rfl, q⟩ | ⟨i, b, rfl, rfl, q⟩
  · cases rx; obtain ⟨t, rfl⟩ := ry
    exact PySem.IntBool.sub_bool_int ⟨.int _, H, I.tok _, ⟨_, rfl⟩, q⟩
  · cases ry; obtain ⟨t, rfl⟩ := rx
    exact PySem.IntBool.sub_int_bool ⟨.int _, H, I.tok _, ⟨_, rfl⟩, q⟩
theorem op_mulT : OpR X (binaryOp .Mult) (rT (· * ·)) := by
  intro pins s σ H x y v u Q I rx ry h
  rcases h with ⟨a, i, rfl, rfl, q⟩ | ⟨i, b, rfl, rfl, q⟩
  · cases rx; obtain ⟨t, rfl⟩ := ry
    exact PySem.IntBool.mul_bool_int ⟨.int _, H, I.tok _, ⟨_, rfl⟩, q⟩
  · cases ry; obtain ⟨t, rfl⟩ := rx
    exact PySem.IntBool.mul_int_bool ⟨.int _, H, I.tok _, ⟨_, rfl⟩, q⟩
def dT (g : Int → Int → Int) (f : Sto → D → D → Option D) (st : Sto) (x y : D) : Option D := match x, y with
  | .bl a, .int i => some (.int (g (tn a) i))
  | .int i, .bl b => some (.int (g i (tn b)))
  | x, y => f st x y
theorem os_T {g : Int → Int → Int} {r : R2} {f : Sto → D → D → Option D} (hf : OpS X.K r f) : OpS X.K (fun x y H Q => rT g x y H Q ∨ r x y H Q) (dT g f) := by
  intro H d st x y v w z Q r0 hx hy e q
  unfold dT at e
  split at e
  · cases e; cases hx; cases hy
    exact .inl (.inl ⟨_, _, rfl, rfl, q _ H (Same.refl H) (.int _)⟩)
  · cases e; cases hx; cases hy
    exact .inl (.inr ⟨_, _, rfl, rfl, q _ H (Same.refl H) (.int _)⟩)
  · exact .inr (hf H d st x y v w z Q r0 hx hy e q)
theorem op_add5 : OpR X (binaryOp .Add) (fun x y H Q => rT (· + ·) x y H Q ∨ rAdd4 X.K x y H Q) := op_addT.or op_add4
theorem op_sub5 : OpR X (binaryOp .Sub) (fun x y H Q => rT (· - ·) x y H Q ∨ rI0 (fun i j => .int (i - j)) x y H Q) := op_subT.or op_sub
theorem op_mul5 : OpR X (binaryOp .Mult) (fun x y H Q => rT (· * ·) x y H Q ∨ rMul2 x y H Q) := op_mulT.or op_mul2
abbrev dAddT := dT (· + ·) dAdd
abbrev dSubT := dT (· - ·) dSub
abbrev dMulT := dT (· * ·) dMul
theorem os_add5 : OpS X.K (fun x y H Q => rT (· + ·) x y H Q ∨ rAdd4 X.K x y H Q) dAddT := os_T os_add
theorem os_sub5 : OpS X.K (fun x y H Q => rT (· - ·) x y H Q ∨ rI0 (fun i j => .int (i - j)) x y H Q) dSubT := os_T os_sub
theorem os_mul5 : OpS X.K (fun x y H Q => rT (· * ·) x y H Q ∨ rMul2 x y H Q) dMulT := os_T os_mul
/-! the text of a truth -/
def rStrB : List V → Hp → VK → Prop := fun xs H Q => ∃ b, xs = [.bl b] ∧ Q (.str (if b then "True" else "False")) H
theorem cr_strB : CallR X (.type "str") rStrB := by
  intro pins s σ H vs us Q I r h
  obtain ⟨b, rfl, q⟩ := h
  cases r with
  | cons r t =>
    cases t; cases r
    exact P.str_of_bool ⟨.str _, H, I.tok _, ⟨_, rfl⟩, q⟩
def rStr5 : List V → Hp → VK → Prop := fun xs H Q => rStrB xs H Q ∨ ∃ i : Int, xs = [.int i] ∧ i.natAbs.log2 < 1920 ∧ Q (.str (toString i)) H
theorem cr_str5 : CallR X (.type "str") rStr5 := cr_strB.or call_str_int
def fStrT (st : Sto) (xs : List D) : Option D := match xs with
  | [.bl b] => some (.str (if b then "True" else "False"))
  | xs => fStr st xs
theorem cs_str5 : CallS X.K rStr5 fStrT := by
  intro H d st xs vs z Q r hxs e q
  unfold fStrT at e
  split at e
  · cases e
    cases hxs with
    | cons h1 h2 =>
      cases h2; cases h1
      exact .inl ⟨_, rfl, q _ H (Same.refl H) (.str _)⟩
  · exact .inr (cs_str (X := X) H d st _ vs z Q r hxs e q)
/-! - of a truth -/
theorem gives_bool_neg (b : Bool) : Gives (Builtin.«int.__neg__» ⟨[.bool b], []⟩) (.int (-(tn b))) := by
  cases b <;> exact .of_eq rfl
def rNegT : V → Hp → VK → Prop := fun x H Q => (∃ b, x = .bl b ∧ Q (.int (-(tn b))) H) ∨ rU (fun i => .int (-i)) x H Q
theorem un_negT : UnR X (unaryOp .USub) rNegT := by
  intro pins s σ H x v Q I rx h
  rcases h with ⟨b, rfl, q⟩ | h
  · cases rx
    exact unaryOp_gives (op := .USub) (PySem.typeIs_bool s b) rfl F.slot_bool_neg F.entry_int_neg (F.args_int_neg_1 _) (gives_bool_neg b) ⟨.int _, H, I.tok _, ⟨_, rfl⟩, q⟩
  · exact un_neg pins s σ H x v Q I rx h
def dNegT (st : Sto) (x : D) : Option D := match x with
  | .bl b => some (.int (-(tn b)))
  | x => dNeg st x
theorem us_negT : UnS X.K rNegT dNegT := by
  intro H d st x v z Q r hx e q
  unfold dNegT at e
  split at e
  · cases e; cases hx
    exact .inl ⟨_, rfl, q _ H (Same.refl H) (.int _)⟩
  · exact .inr (us_neg (X := X) H d st _ v z Q r hx e q)
end
end PV
end

section
/-! Texts by their order. -/
namespace PV
open PySem PySem.Spec PyProof.Rows L2
section
variable {X : Cx}
def rLeS : R2 := fun x y H Q => ∃ i j, x = .str i ∧ y = .str j ∧ Q (.bl (!decide (j.cps.toList < i.cps.toList))) H
theorem op_leS : OpR X (compareOp .LtE) rLeS := op_le_str
def dLeS (_ : Sto) (x y : D) : Option D := match x, y with
  | .str a, .str b => some (.bl (!decide (b.cps.toList < a.cps.toList)))
  | _, _ => none
theorem os_leS : OpS X.K rLeS dLeS := by
  intro H d st x y v w z Q r hx hy e q
  unfold dLeS at e
  split at e
  · cases e; cases hx; cases hy
    exact ⟨_, _, rfl, rfl, q _ H (Same.refl H) (.bl _)⟩
  · cases e
/-! products with one small factor, or both not too great -/
instance {i j : Int} : Decidable (CMul i j) := inferInstanceAs (Decidable (_ ∨ _))
def rMulX : R2 := fun x y H Q => rMul2 x y H Q ∨ rI CMul (fun i j => .int (i * j)) x y H Q
theorem op_mulX : OpR X (binaryOp .Mult) rMulX := op_mul2.or op_mul
def dMulX (st : Sto) (x y : D) : Option D := match x, y with
  | .int a, .int b => if CMulW a b ∨ CMul a b then some (.int (a * b)) else none
  | x, y => dMul st x y
theorem os_mulX : OpS X.K rMulX dMulX := by
  intro H d st x y v w z Q r hx hy e q
  unfold dMulX at e
  split at e
  · split at e
    · rename_i h
      cases e
      cases hx; cases hy
      rcases h with h | h
      · exact .inl (.inl ⟨_, _, rfl, rfl, h, q _ H (Same.refl H) (.int _)⟩)
      · exact .inr ⟨_, _, rfl, rfl, h, q _ H (Same.refl H) (.int _)⟩
    · cases e
  · exact .inl (os_mul (X := X) H d st _ _ v w z Q r hx hy e q)
theorem op_mul6 : OpR X (binaryOp .Mult) (fun x y H Q => rT (· * ·) x y H Q ∨ rMulX x y H Q) := op_mulT.or op_mulX
abbrev dMulY := dT (· * ·) dMulX
theorem os_mul6 : OpS X.K (fun x y H Q => rT (· * ·) x y H Q ∨ rMulX x y H Q) dMulY := os_T os_mulX
end
end PV
end

section
/-! Errors of the program's own: raised without a word, caught and kept. -/
namespace PV
open PySem PySem.Spec PyProof.Rows L2
section
variable {X : Cx} {W : WX'} {C : Addr} {bmB : List Value} {B newId initId : String}
/-- X() -/
theorem pmk_bare {x : Str} {p pos : Pos} (F : ExcBaseFacts B newId initId bmB) (q : PySem.W.excIn X.K C bmB newId = true) (gC : X.mg x = some (.ref C)) (kC : PySem.W.keepIn X.K (.ref C) = true) (r : Raises X (.ref C)) (hg : Gl X x)
    (hdb : (x == ("__debug__" : Str)) = false := by decide) : PMk X (.Call (.Name x p) [] [] pos) (fun _ H Q => Q (.ref C) none H) := by
  intro pins s σ H Q I h
  refine wpAny_Call_Name_kw (ld_glob I hg gC ?_ hdb)
  refine PySem.W.callWith_K0 I.kIn kC ?_
  obtain ⟨bm, N, nm, qn, bs, hdct, sn, sub, ab, col, dd, k0, k1, k2, k3, k5, mN, hC, hN, hni, T⟩ := exc_obj I.kIn q
  exact wpAny_call_exc_subT F T hC hN hni (fun h' e hm => mk_of I hm r h (I.hok.gone hm.new)) (Nat.zero_le _)
end
end PV
end

section
/-! An error that was caught, kept by a name. -/
namespace PV
open PySem PySem.Spec PyProof.Rows L2
/-- what is known of a kept one: its class, its own dict -/
def ErrO (cls : Value) (d : Option Addr) (a : Addr) : HO :=
  .ext fun h => ∃ (z : Obj) (fs : Array Value), h.get? a = some z ∧ Zc cls d z ∧ z.data = .fields fs
section
variable {X : Cx} {pn : List (Addr × Obj)} {σ : L2.St} {H : Hp} {s : Shared} {a : Addr} {z : Obj} {fs : Array Value} {cls : Value} {d : Option Addr}
theorem track (I : Inv X pn σ H s) (ha : s.heap.get? a = some z) (hz : Zc cls d z) (hd : z.data = .fields fs) (na : H a = none) (nL : a ≠ X.env.locals) (n0 : X.s_0.heap.get? a = none) (np : ∀ p ∈ X.pn ++ pn, p.1 ≠ a) :
    Inv X pn σ (upd H a (ErrO cls d a)) s := by
  have ne0 : ∀ {b o}, X.s_0.heap.get? b = some o → b ≠ a := fun e q => by rw [q, n0] at e; cases e
  have neH : ∀ {b u}, H b = some u → b ≠ a := fun e q => by rw [q, na] at e; cases e
  have B := I.base
  refine ⟨I.ok, I.os, I.bare, ⟨B.keep, B.slot, ?_, B.there, ?_, ?_, ?_⟩, I.loc, I.cell, ?_, ?_, ?_, ?_, I.len⟩
  · intro b o e q x
    rw [upd_ne (ne0 e)]
    exact B.free b o e q x
  · intro b xs e
    have := B.tups b xs e
    rw [upd_ne (neH this)]; exact this
  · intro b o u e
    have := B.frzs b o u e
    rw [upd_ne (neH this)]; exact this
  · intro b ps e
    obtain ⟨m, this⟩ := B.tbls b ps e
    exact ⟨m, by rw [upd_ne (neH this)]; exact this⟩
  · rw [upd_ne (Ne.symm nL)]; exact I.free
  · intro x c e
    have hc : c ≠ a := fun q => by
      obtain ⟨v, o, h1, h2⟩ := I.cell x c e
      rw [q, ha] at h1
      cases h1
      rw [hd] at h2; cases h2
    rw [upd_ne hc]; exact I.freeC x c e
  · intro p hp
    obtain ⟨h1, h2, h3, h4, h5⟩ := I.pin p hp
    exact ⟨h1, by rw [upd_ne (np p hp)]; exact h2, h3, h4, h5⟩
  · intro b u e
    by_cases q : b = a
    · subst q
      unfold upd at e
      rw [if_pos rfl] at e
      cases e
      exact ⟨⟨z, fs, ha, hz, hd⟩, ⟨z, ha⟩, fun h1 h2 ⟨y, gs, h3, h4⟩ k => ⟨y, gs, k y h3, h4⟩⟩
    · rw [upd_ne q] at e
      refine (I.hok b u e).stay (fun c v _ r => r) (fun c r => ?_) fun c xs r => ?_
      · rw [upd_ne (neH r)]; exact r
      · rw [upd_ne (neH r)]; exact r
end
/-- a test of an except clause: which of what is thrown it takes -/
def ClauseT (X : Cx) (t : Expr) (T : Value → Prop) : Prop :=
  ∀ (a : Addr) (z : Obj) (qn : List (Addr × Obj)) (s : Shared) (σ : L2.St) (H : Hp) (cls : Value) (Q : Bool → Shared → Prop) (E : Value → Shared → Prop), Inv (X.suite a ((a, z) :: qn)) [] σ H s → T cls →
    PySem.W.Looks (model X.prog X.w) s.heap (typeOf (.ref a)) cls → (∀ h', (∀ b o, s.heap.get? b = some o → h'.get? b = some o) → Q true { s with heap := h' }) →
    wpAny (model X.prog X.w) (X.A.mark (some (.ref a))) (eval t X.env) (fun c s1 => wpAny (model X.prog X.w) (X.A.mark (some (.ref a))) (excMatches (.ref a) c) Q E s1) E s
/-- what is wished of what the body throws: i the clause's name, j the keeper's -/
def wKeep (T : Value → Prop) (i j : Nat) (D : Ends) : WX := fun cls d σ H => T cls ∧ ∀ a, H a = none → D.nx ((σ.set j (some (.ref a))).set i none) (upd H a (ErrO cls d a))
theorem flying_on {B h h' : Heap} {l : List Env} {a : Addr} {Z : Obj → Prop} (fl : HandSPX.FlyingZ B l a Z h) (k : ∀ b o, h.get? b = some o → h'.get? b = some o) : HandSPX.FlyingZ B l a Z h' := by
  obtain ⟨f1, f2, f3, oe, vs, T, oT, ts, h1, h2, h3, h4, h5, h6, h7, h8⟩ := fl
  exact ⟨fun b o q => k b o (f1 b o q), f2, f3.of_keeps fun b o q _ => ⟨o, k b o q, rfl⟩, oe, vs, T, oT, ts, k _ _ h1, h2, h3, h4, h5, h6, k _ _ h7, h8⟩
section
variable {X : Cx} {t : Expr} {T : Value → Prop} {n m : Str} {i j : Nat} {body : List Stmt} {np mp pos pos' apos : Pos} {tb : WX → TS} {Wout : WX}
theorem ps_try_keep (hs : X.stack = X.env :: X.outer) (hf : X.env.frame = some X.env.locals) (hex : X.ex = []) (hN : X.N.Nodup) (hi : X.N[i]? = some n) (hln : X.env.kindOf n = some .local) (hj : X.N[j]? = some m) (hlm : X.env.kindOf m = some .local)
    (hsu : ∀ (a : Addr) (qn : List (Addr × Obj)), PSs (X.suite a qn) [.Assign [.Name m mp] (.Name n np) apos] (fun D σ H => σ[i]? = some (some (.ref a)) ∧ D.nx (σ.set j (some (.ref a))) H))
    (ht : ClauseT X t T)
    (hb : ∀ (W : WX) (qn : List (Addr × Obj)) (xe : Value → Shared → Prop), Takes (X.tr qn xe) W → PassesOwn (model X.prog X.w) X.A X.env xe → PSs (X.tr qn xe) body (tb W)) :
    PS X (.Try body [.ExceptHandler (some t) (some n) [.Assign [.Name m mp] (.Name n np) apos] pos'] [] [] pos) (fun D σ H => tb (wKeep T i j D) D σ H) := by
  refine ⟨fun pn s σ H D I h => ?_⟩
  have ok := I.ok
  have hst : X.A.frames = some (X.env :: X.outer) := by rw [ok.frames, hs]
  refine wpAny_Try_except ?_
  have body' := (hb (wKeep T i j D) (X.pn ++ pn) (fun e s1 => wpAny (model X.prog X.w) X.A (noteFrame e X.env) (fun _ s2 => wpAny (model X.prog X.w) X.A (setFlight e none) (fun _ s3 =>
    wpAny (model X.prog X.w) X.A (handleBy e X.env [.ExceptHandler (some t) (some n) [.Assign [.Name m mp] (.Name n np) apos] pos']) (SP X pn D) X.xe s3) X.xe s2) X.xe s1) (fun u s' xx => ?_) PassesOwn.looking).run [] s σ H D (I.toTry _) h
  · refine wpAny_mono body' (fun f s1 q => ?_) fun e s1 q => q
    cases f with
    | next => obtain ⟨σ1, H1, J, r⟩ := q; exact wpAny_execs_nil ⟨σ1, H1, J.ofTry ok, r⟩
    | brk => obtain ⟨σ1, H1, J, r⟩ := q; exact ⟨σ1, H1, J.ofTry ok, r⟩
    | cont => obtain ⟨σ1, H1, J, r⟩ := q; exact ⟨σ1, H1, J.ofTry ok, r⟩
    | ret v => obtain ⟨v1, σ1, H1, J, r1, r⟩ := q; exact ⟨v1, σ1, H1, J.ofTry ok, r1, r⟩
  · obtain ⟨a, B, sI, pn1, σ1, H1, cls, d, rfl, J0, nb, up, sky, na, os, ag, hT, hyes⟩ := xx
    have J : Inv X pn σ1 H1 sI := J0.ofTry ok
    have sky1 : Sky B (X.env :: X.outer) a (Zc cls d) X.env.locals s'.heap := by rw [← hs]; exact sky
    have nb1 : ∀ b o, sI.heap.get? b = some o → b ∉ frs (X.env :: X.outer) → B.get? b = some o := by rw [← hs]; exact nb
    show wpAny (model X.prog X.w) X.A (noteFrame (.ref a) X.env) _ _ _
    refine Sky.land Zc.steady hst hf sky1 fun h3 fl3 up3 => ?_
    have J3 : Inv X pn σ1 H1 { s' with heap := h3 } := J.landed nb fl3.1 (up.trans up3) os ag
    obtain ⟨z3, fs3, g3, zc3, zd3⟩ := fl3.there
    have nfr : a ∉ frs (X.env :: X.outer) := fun hm => by
      obtain ⟨_, y, e, nf⟩ := fl3.2.2.1.mem hm
      rw [g3] at e; cases e
      exact nf _ zd3
    have nL : a ≠ X.env.locals := fun q => nfr (List.mem_filterMap.mpr ⟨X.env, List.mem_cons_self, by rw [hf, q]⟩)
    have nF : a ∉ X.fs := fun hm => by
      obtain ⟨e, he, q⟩ := List.mem_filterMap.mp hm
      exact nfr (List.mem_filterMap.mpr ⟨e, List.mem_cons_of_mem _ he, q⟩)
    have nI : sI.heap.get? a = none := by
      cases q : sI.heap.get? a with
      | none => rfl
      | some o =>
        have := nb1 a o q nfr
        rw [fl3.2.1] at this; cases this
    have n0 : X.s_0.heap.get? a = none := by
      cases q : X.s_0.heap.get? a with
      | none => rfl
      | some o =>
        obtain ⟨y, e⟩ := J.base.there a o q (by rw [hex]; exact fun z => nomatch z)
        rw [nI] at e; cases e
    have np1 : ∀ p ∈ X.pn ++ pn, p.1 ≠ a := fun p hp q => by
      have := (J.pin p hp).1
      rw [q, nI] at this; cases this
    have S3 := J3.suite g3 zd3 na nL nF
    have LT : PySem.W.Looks (model X.prog X.w) h3 (typeOf (.ref a)) cls := fun A Q E s k q => wpAny_typeOf_ref (k _ _ g3) (by rw [zc3.1]; exact q)
    refine wpAny_handleBy_cons (codeAny_handlers_test (ht a z3 _ _ _ _ cls _ _ S3 hT LT fun h4 k4 => ?_)) (by intro q; cases q)
    have fl4 := flying_on fl3 k4
    refine codeAny_handlers_suite_as ?_
    refine HandSPX.lands_againZ fl4 fun h5 fl5 up5 => ?_
    have J5 : Inv X pn σ1 H1 { s' with heap := h5 } := J.landed nb fl5.1 (((up.trans up3).trans (Heap.UpToSlots.of_keeps k4)).trans up5) os ag
    obtain ⟨z5, fs5, g5, zc5, zd5⟩ := fl5.there
    have S5 := J5.suite g5 zd5 na nL nF
    refine store_ok (X := X.suite a ((a, z5) :: (X.pn ++ pn))) (v := .ref a) S5 hN hi (.inl hln) rfl (fun s6 S6 => ?_) (.inr hln)
    have hiσ : i < σ1.length := by rw [J.len]; exact (List.getElem?_eq_some_iff.mp hi).1
    refine wpAny_mono ((hsu a ((a, z5) :: (X.pn ++ pn))).run [] s6 _ H1 { nx := fun σ' H' => σ' = (σ1.set i (some (.ref a))).set j (some (.ref a)) ∧ H' = H1, rt := fun _ _ => False } S6 ⟨by rw [List.getElem?_set_self hiσ], rfl, rfl⟩) (fun f s7 q => ?_) (fun _ _ q => False.elim q)
    cases f with
    | next =>
      obtain ⟨σ7, H7, S7, rfl, rfl⟩ := q
      have g7 := (S7.pin (a, z5) (List.mem_append_left _ List.mem_cons_self)).1
      have J7 := track (S7.unsuite ok) g7 zc5 zd5 na nL n0 np1
      refine gone_ok J7 hN hi hln fun s8 J8 => ⟨_, _, J8, ?_⟩
      have e : (((σ1.set i (some (.ref a))).set j (some (.ref a))).set i none) = ((σ1.set j (some (.ref a))).set i none : L2.St) := by
        by_cases ij : i = j
        · subst ij; simp
        · rw [List.set_comm _ _ ij, List.set_set, List.set_comm _ _ (Ne.symm ij)]
      rw [e]
      exact hyes a na
    | brk => obtain ⟨_, _, _, q⟩ := q; exact False.elim q
    | cont => obtain ⟨_, _, _, q⟩ := q; exact False.elim q
    | ret v => obtain ⟨_, _, _, _, _, q⟩ := q; exact False.elim q
end
end PV
end

section
/-! try: .. except (A, ..) as error: caught = error; return isinstance(caught, A) and isinstance(caught, B). -/
namespace PV
open PySem PySem.Spec PyProof.Rows L2
section
variable {X : Cx}
/-- except X as n -/
theorem clause_one {x : Str} {C : Addr} {np : Pos} (hg : Gl X x) (hm : X.mg x = some (.ref C)) (hdb : (x == ("__debug__" : Str)) = false := by decide) : ClauseT X (.Name x np) (fun cls => PySem.W.exmOne X.K cls (.ref C) = some true) := by
  intro a z qn s σ H cls Q E S hT LT q
  refine ld_glob (X := X.suite a ((a, z) :: qn)) S hg hm ?_ hdb
  exact (PySem.W.exm_one S.kIn LT hT).here (q s.heap fun _ _ e => e)
/-- except (X, Y, Z, U) as n -/
theorem clause_four {x1 x2 x3 x4 : Str} {C1 C2 C3 C4 : Addr} {p1 p2 p3 p4 tp : Pos} {kk : Nat} (g1 : Gl X x1) (m1 : X.mg x1 = some (.ref C1)) (g2 : Gl X x2) (m2 : X.mg x2 = some (.ref C2)) (g3 : Gl X x3) (m3 : X.mg x3 = some (.ref C3)) (g4 : Gl X x4) (m4 : X.mg x4 = some (.ref C4))
    (b1 : (x1 == ("__debug__" : Str)) = false := by decide) (b2 : (x2 == ("__debug__" : Str)) = false := by decide) (b3 : (x3 == ("__debug__" : Str)) = false := by decide) (b4 : (x4 == ("__debug__" : Str)) = false := by decide) :
    ClauseT X (.Tuple [.Name x1 p1, .Name x2 p2, .Name x3 p3, .Name x4 p4] kk tp) (fun cls => PySem.W.exmAny X.K cls [.ref C1, .ref C2, .ref C3, .ref C4] = some true) := by
  intro a z qn s σ H cls Q E S hT LT q
  refine wpAny_Tuple ?_
  refine wpAny_items_cons (ld_glob (X := X.suite a ((a, z) :: qn)) S g1 m1 ?_ b1)
  refine wpAny_items_cons (ld_glob (X := X.suite a ((a, z) :: qn)) S g2 m2 ?_ b2)
  refine wpAny_items_cons (ld_glob (X := X.suite a ((a, z) :: qn)) S g3 m3 ?_ b3)
  refine wpAny_items_cons (ld_glob (X := X.suite a ((a, z) :: qn)) S g4 m4 ?_ b4)
  refine wpAny_items_nil ⟨by size_fits, ?_⟩
  have kp : ∀ b o, s.heap.get? b = some o → (s.heap.push { cls := .type "tuple", data := .seq [Value.ref C1, .ref C2, .ref C3, .ref C4].toArray }).get? b = some o := fun _ _ e => Heap.get?_push_of_some _ e
  exact (PySem.W.exm_tup4 (S.kIn.keeps kp) (LT.keeps kp) (Heap.get?_push_size s.heap rfl) hT).here (q _ kp)
/-! isinstance of it -/
def rIsK (K : PySem.W.Frag) : List V → Hp → VK → Prop := fun xs H Q =>
  (∃ (a C : Addr) (c : V) (cv : Value) (b : Bool), xs = [.ref a, c] ∧ H a = some (ErrO (.ref C) none a) ∧ ExcC K C ∧ ClsV c cv ∧ PySem.W.kitOne K (.ref C) cv = some b ∧ Q (.bl b) H) ∨ rIsi K xs H Q
theorem call_isK : CallR X (.builtin "isinstance") (rIsK X.K) := by
  refine CallR.or ?_ call_isi
  intro pn s σ H xs us Q I r h
  obtain ⟨a, C, c, cv, b, rfl, ha, E, k, e, q⟩ := h
  obtain ⟨u1, u2, rfl, r1, r2⟩ := vals2 r
  cases (show u1 = Value.ref a from r1)
  have e2 := k.eq r2
  subst e2
  obtain ⟨⟨z, fs, hz, zc, zd⟩, _⟩ := (show ObjOk X.prog X.w H s.heap a (ErrO (.ref C) none a) from I.hok a _ ha)
  have J : PySem.W.InstAt s.heap a z C none := by
    obtain ⟨oc, od, dt, sl⟩ := z
    obtain ⟨z1, z2⟩ := zc
    dsimp only at z1 z2 zd
    subst z1 z2 zd
    exact ⟨hz, rfl, rfl, trivial⟩
  exact PySem.W.kia_one (PySem.W.handS_kitx_exc E.hg E.hk E.hs E.hd E.ha E.hn E.ht E.hm) I.kIn J e (fun z => nomatch z) fun tk => ⟨.bl b, H, I.tok tk, rfl, q⟩
variable {j : Nat} {m : Str} {c1 c2 : Expr} {v1 v2 : V} {u1 u2 : Value} {p1 p2 p3 p4 q1 q2 bp rp : Pos}
/-- return isinstance(caught, A) and isinstance(caught, B) -/
def tTwo (K : PySem.W.Frag) (j : Nat) (u1 u2 : Value) : TS := fun D σ H => ∃ v, σ[j]? = some (some v) ∧ ((v = .non ∧ PySem.W.kitOne K (.type "NoneType") u1 = some false ∧ D.rt (.bl false) H) ∨
  ∃ (a C : Addr) (b1 b2 : Bool), v = .ref a ∧ H a = some (ErrO (.ref C) none a) ∧ ExcC K C ∧ PySem.W.kitOne K (.ref C) u1 = some b1 ∧ PySem.W.kitOne K (.ref C) u2 = some b2 ∧ D.rt (.bl (b1 && b2)) H)
theorem ps_two (hg : Gl X "isinstance") (hm : X.mg "isinstance" = none) (hN : X.N[j]? = some m) (hv : Vis X.env.scope m) (hd : (m == ("__debug__" : Str)) = false) (hcd : (m == ("__classdict__" : Str)) = false) (h1 : PE X c1 (tC v1)) (k1 : ClsV v1 u1) (h2 : PE X c2 (tC v2)) (k2 : ClsV v2 u2)
    (s1 : starEach [.Name m p1, c1] X.env = (false, eval (.Name m p1) X.env) :: starEach [c1] X.env := by rfl) (t1 : starEach [c1] X.env = (false, eval c1 X.env) :: starEach [] X.env := by rfl) (w1 : (backTo q1 (starEach [c1] X.env)).any (·.1) = false := by rfl)
    (s2 : starEach [.Name m p3, c2] X.env = (false, eval (.Name m p3) X.env) :: starEach [c2] X.env := by rfl) (t2 : starEach [c2] X.env = (false, eval c2 X.env) :: starEach [] X.env := by rfl) (w2 : (backTo q2 (starEach [c2] X.env)).any (·.1) = false := by rfl) :
    PS X (.Return (some (.BoolOp .And [.Call (.Name "isinstance" p2) [.Name m p1, c1] [] q1, .Call (.Name "isinstance" p4) [.Name m p3, c2] [] q2] bp)) rp) (tTwo X.K j u1 u2) := by
  have one := fun {p q r : Pos} {c : Expr} {v : V} (h : PE X c (tC v)) (s : starEach [.Name m p, c] X.env = (false, eval (.Name m p) X.env) :: starEach [c] X.env) (t : starEach [c] X.env = (false, eval c X.env) :: starEach [] X.env) (w : (backTo q (starEach [c] X.env)).any (·.1) = false) =>
    pe_callB (p := r) (pos := q) (call_isK (X := X)) hg hm rfl (pa_cons (pe_var (pos := p) hN hv hd hcd) (pa_cons h pa_nil t) s) (by decide) (by decide) s w
  refine PS.imp (ps_ret (pe_and (one h1 s1 t1 w1) (pe_one (one h2 s2 t2 w2)))) fun D σ H h => ?_
  obtain ⟨v, hv, h⟩ := h
  rcases h with ⟨rfl, e, q⟩ | ⟨a, C, b1, b2, rfl, ha, E, e1, e2, q⟩
  · exact ⟨_, hv, .inr ⟨_, _, _, _, _, rfl, k1, .base .non, e, false, rfl, q⟩⟩
  · refine ⟨_, hv, .inl ⟨a, C, _, _, _, rfl, ha, E, k1, e1, b1, rfl, ?_⟩⟩
    cases b1 with
    | false => exact q
    | true => exact ⟨_, hv, .inl ⟨a, C, _, _, _, rfl, ha, E, k2, e2, q⟩⟩
/-! the two rows as one -/
def sCaught (tB : Ts) (j : Nat) (tst : Str → Option Bool) : Ts := fun nv st => match tB nv st with
  | .ok (.nx nv1) st1 => match nv1[j]? with
    | some (some .non) => .ok (.rt (.bl false)) st1
    | _ => .bad
  | .ok (.ex x nv1) st1 => if j < nv1.length then (match x.fs, tst x.cls with
    | none, some b => .ok (.rt (.bl b)) st1
    | _, _ => .bad) else .bad
  | _ => .bad
theorem ss_caught {W : WX'} {t : Expr} {T : Value → Prop} {n : Str} {i : Nat} {body : List Stmt} {np mp pos pos' apos : Pos} {tB : Ts} {tst : Str → Option Bool} {ret : Stmt}
    (hs : X.stack = X.env :: X.outer) (hf : X.env.frame = some X.env.locals) (hex : X.ex = []) (hN : X.N.Nodup) (hi : X.N[i]? = some n) (hln : X.env.kindOf n = some .local) (hj : X.N[j]? = some m) (hlm : X.env.kindOf m = some .local) (hij : i ≠ j)
    (hsu : ∀ (a : Addr) (qn : List (Addr × Obj)), PSs (X.suite a qn) [.Assign [.Name m mp] (.Name n np) apos] (fun D σ H => σ[i]? = some (some (.ref a)) ∧ D.nx (σ.set j (some (.ref a))) H))
    (ht : ClauseT X t T) (hr : PS X ret (tTwo X.K j u1 u2)) (k0 : PySem.W.kitOne X.K (.type "NoneType") u1 = some false)
    (hc : ∀ (x : Str) (b : Bool) (C : Addr), tst x = some b → X.mg x = some (.ref C) → T (.ref C) ∧ ExcC X.K C ∧ ∃ b1 b2, PySem.W.kitOne X.K (.ref C) u1 = some b1 ∧ PySem.W.kitOne X.K (.ref C) u2 = some b2 ∧ b = (b1 && b2))
    (hb : ∀ (W' : WX') (qn : List (Addr × Obj)) (xe : Value → Shared → Prop), Takes (X.tr qn xe) W' → PassesOwn (model X.prog X.w) X.A X.env xe → PSs (X.tr qn xe) body (tIS X.fx W' tB)) :
    PSs X [.Try body [.ExceptHandler (some t) (some n) [.Assign [.Name m mp] (.Name n np) apos] pos'] [] [] pos, ret] (tIS X.fx W (sCaught tB j tst)) := by
  refine PSs.imp (pss_cons (ps_try_keep hs hf hex hN hi hln hj hlm hsu ht hb) (pss_one hr)) fun D σ H h => ?_
  obtain ⟨d, nv, st, r0, n0, q⟩ := h
  refine ⟨d, nv, st, r0, n0, ?_⟩
  unfold sCaught at q
  cases e : tB nv st with
  | bad => rw [e] at q; exact False.elim q
  | exc x st1 => rw [e] at q; exact False.elim q
  | ok f st1 =>
    rw [e] at q
    cases f with
    | nx nv1 =>
      simp only at q
      intro H' d' e1 r1 σ' n1
      cases e2 : nv1[j]? with
      | none => rw [e2] at q; exact False.elim q
      | some o =>
        cases o with
        | none => rw [e2] at q; exact False.elim q
        | some x =>
          cases x with
          | non =>
            rw [e2] at q
            obtain ⟨v, h1, h2⟩ := n1.at' j .non e2
            cases h2
            exact ⟨.non, h1, .inl ⟨rfl, k0, q H' d' e1 r1 (.bl false) (.bl false)⟩⟩
          | _ => rw [e2] at q; exact False.elim q
    | ex x nv1 =>
      simp only at q
      by_cases hj2 : j < nv1.length
      case neg => rw [if_neg hj2] at q; exact False.elim q
      rw [if_pos hj2] at q
      intro H' d' e1 r1 σ' cls dx n1 rx
      obtain ⟨C, m1, rfl, m3⟩ := rx
      cases e2 : x.fs with
      | some _ => rw [e2] at q; exact False.elim q
      | none =>
        cases e3 : tst x.cls with
        | none => rw [e2, e3] at q; exact False.elim q
        | some b =>
          rw [e2, e3] at q
          rw [e2] at m3
          obtain ⟨hT, hE, b1, b2, k1, k2, rfl⟩ := hc x.cls b C e3 m1
          cases dx with
          | some _ => exact False.elim m3
          | none =>
            refine ⟨hT, fun a na => ⟨.ref a, ?_, .inr ⟨a, C, b1, b2, rfl, upd_same, hE, k1, k2, ?_⟩⟩⟩
            · have hl : j < σ'.length := by rw [n1.len]; exact hj2
              rw [List.getElem?_set_ne hij, List.getElem?_set_self hl]
            · have s := same_upd (o := ErrO (.ref C) none a) na
              exact q _ d' (e1.trans (Ext.same s)) (r1.same s) (.bl (b1 && b2)) (.bl (b1 && b2))
    | bk _ => exact False.elim q
    | ct _ => exact False.elim q
    | rt _ => exact False.elim q
end
end PV
end

section
/-! .. as the generator hands them. -/
namespace PV
open PySem PySem.Spec PyProof.Rows L2
section
variable {X : Cx} {W : WX'} {B newId initId : String} {bm : List Value} {C : Addr}
def sRaise0 (x : Str) : Ts := fun nv st => .ok (.ex ⟨x, none⟩ nv) st
theorem ss_raise0 {x : Str} {p pos pos2 : Pos} (hc : X.calm = true) (tk : Takes X W) (F : ExcBaseFacts B newId initId bm) (q : PySem.W.excIn X.K C bm newId = true) (g : X.mg x = some (.ref C)) (k : PySem.W.keepIn X.K (.ref C) = true) (r : Raises X (.ref C)) (hg : Gl X x)
    (hdb : (x == ("__debug__" : Str)) = false := by decide) : PS X (.Raise (some (.Call (.Name x p) [] [] pos)) none pos2) (tIS X.fx W (sRaise0 x)) := by
  refine PS.imp (ps_raise hc tk (pmk_bare F q g k r hg hdb)) fun D σ H h => ?_
  obtain ⟨d, nv, st, r0, n0, q0⟩ := h
  exact aftS_ok q0 r0 σ _ none n0 ⟨C, g, rfl, trivial⟩
theorem suite_keep {n m : Str} {i j : Nat} {np mp apos : Pos} (hN : X.N.Nodup) (hi : X.N[i]? = some n) (hv : Vis X.env.scope n) (hj : X.N[j]? = some m) (hl : Loc X.env.scope m) (hl2 : X.env.scope.names.lookup m = some .local)
    (hd : (n == ("__debug__" : Str)) = false := by decide) (hcd : (n == ("__classdict__" : Str)) = false := by decide) : ∀ (a : Addr) (qn : List (Addr × Obj)), PSs (X.suite a qn) [.Assign [.Name m mp] (.Name n np) apos] (fun D σ H => σ[i]? = some (some (.ref a)) ∧ D.nx (σ.set j (some (.ref a))) H) :=
  fun a qn => PSs.imp (pss_one (ps_asg (X := X.suite a qn) (pe_var (i := i) hi hv hd hcd) (pg_name (i := j) hN hj hl (.inr hl2)))) fun D σ H h => ⟨_, h.1, h.2⟩
def tst1 (R : Str) (v : Bool) (x : Str) : Option Bool := if x = R then some v else none
theorem hc_one {T : Value → Prop} {R : Str} {b1 b2 : Bool} {u1 u2 : Value} (m : X.mg R = some (.ref C)) (h1 : T (.ref C)) (h2 : ExcC X.K C) (h3 : PySem.W.kitOne X.K (.ref C) u1 = some b1) (h4 : PySem.W.kitOne X.K (.ref C) u2 = some b2) :
    ∀ (x : Str) (b : Bool) (D : Addr), tst1 R (b1 && b2) x = some b → X.mg x = some (.ref D) → T (.ref D) ∧ ExcC X.K D ∧ ∃ c1 c2, PySem.W.kitOne X.K (.ref D) u1 = some c1 ∧ PySem.W.kitOne X.K (.ref D) u2 = some c2 ∧ b = (c1 && c2) := by
  intro x b D hx hm
  unfold tst1 at hx
  split at hx
  · rename_i e
    subst e
    cases hx
    rw [m] at hm
    cases hm
    exact ⟨h1, h2, b1, b2, h3, h4, rfl⟩
  · cases hx
theorem tc_own {x : Str} {p : Pos} (hg : Gl X x) (m : X.mg x = some (.ref C)) (hd : (x == ("__debug__" : Str)) = false := by decide) : PE X (.Name x p) (tC (.ref C)) := pe_glob hg m rfl hd
end
end PV
end

section
/-! // by numbers below nought, too. -/
namespace PV
open PySem PySem.Spec PyProof.Rows L2
section
variable {X : Cx}
def CDivZ (_ j : Int) : Prop := j ≠ 0 ∧ j.natAbs.log2 < 9000
instance {i j : Int} : Decidable (CDivZ i j) := inferInstanceAs (Decidable (_ ∧ _))
theorem op_fdivZ : OpR X (binaryOp .FloorDiv) (rI CDivZ fun i j => .int (i.fdiv j)) := opI fun _ _ _ _ _ _ _ hc q => floordiv_int hc.1 q (.inl (PyProof.noPylong_of_log2 hc.2))
def dDivZ (_ : Sto) (x y : D) : Option D := match x, y with
  | .int a, .int b => if CDivZ a b then some (.int (a.fdiv b)) else none
  | _, _ => none
theorem os_divZ : OpS X.K (rI CDivZ fun i j => .int (i.fdiv j)) dDivZ := by
  intro H d st x y v w z Q r hx hy e q
  unfold dDivZ at e
  split at e
  · split at e
    · rename_i h
      cases e; cases hx; cases hy
      exact ⟨_, _, rfl, rfl, h, q _ H (Same.refl H) (.int _)⟩
    · cases e
  · cases e
end
end PV
end

section
/-! A list made and lengthened in two rows, ours no more behind them. -/
namespace PV
open PySem PySem.Spec PyProof.Rows L2
def othersLow (j n : Nat) : Nat → Nv → Bool
  | _, [] => true
  | i, o :: r => (if i = j then true else match o with
    | none => true
    | some x => below n x) && othersLow j n (i + 1) r
theorem othersLow_of {j n : Nat} : ∀ {nv : Nv} {i k : Nat} {x : D}, othersLow j n i nv = true → nv[k]? = some (some x) → i + k ≠ j → below n x = true
  | [], _, _, _, _, e, _ => by simp at e
  | o :: r, i, 0, x, h, e, hne => by
    simp only [List.getElem?_cons_zero, Option.some.injEq] at e
    subst e
    simp only [othersLow, Bool.and_eq_true] at h
    rw [if_neg (by simpa using hne)] at h
    exact h.1
  | o :: r, i, k + 1, x, h, e, hne => by
    simp only [List.getElem?_cons_succ] at e
    simp only [othersLow, Bool.and_eq_true] at h
    exact othersLow_of h.2 e (by omega)
open Classical in
noncomputable def sFz (t : Ts) (j : Nat) : Ts := fun nv st => match t nv st with
  | .ok (.nx nv1) st1 => if (OldOk st st1 ∧ st.length ≤ st1.length) ∧ othersLow j st.length 0 nv1 = true then (match nv1[j]? with
    | some (some x) => match thaw st1 st.length 40 x with
      | some y => .ok (.nx (nv1.set j (some y))) (st1.take st.length)
      | none => .bad
    | _ => .bad) else .bad
  | _ => .bad
section
variable {X : Cx} {W : WX'} {s1 s2 : Stmt} {rest : List Stmt} {t1 t2 u : Ts} {j : Nat}
theorem ss_fz (h1 : PS X s1 (tIS X.fx W t1)) (h2 : PS X s2 (tIS X.fx W t2)) (hr : PSs X rest (tIS X.fx W u)) : PSs X (s1 :: s2 :: rest) (tIS X.fx W (sSeq (sFz (sSeq t1 t2) j) u)) := by
  refine PSs.imp (pss_cons h1 (pss_cons h2 hr)) fun D σ H h => ?_
  obtain ⟨⟨m0, f0⟩, nv, st, r0, n0, q⟩ := h
  refine ⟨⟨m0, f0⟩, nv, st, r0, n0, ?_⟩
  unfold sSeq bnd sFz at q
  cases e1 : t1 nv st with
  | bad => simp only [e1] at q; exact False.elim q
  | exc x st1 => simp only [e1] at q; exact False.elim q
  | ok f1 st1 =>
    cases f1 with
    | nx nv1 =>
      intro H1 d1 x1 r1 σ1 n1
      refine ⟨d1, nv1, st1, r1, n1, ?_⟩
      simp only [e1] at q
      cases e2 : t2 nv1 st1 with
      | bad => simp only [e2] at q; exact False.elim q
      | exc x st2 => simp only [e2] at q; exact False.elim q
      | ok f2 st2 =>
        cases f2 with
        | nx nv2 =>
          rintro H2 ⟨m2, f2⟩ x2 r2 σ2 n2
          have x02 := x1.trans x2
          obtain rfl : f2 = f0 := x02.ff
          simp only [e2] at q
          by_cases hc : (OldOk st st2 ∧ st.length ≤ st2.length) ∧ othersLow j st.length 0 nv2 = true
          · rw [if_pos hc] at q
            cases e3 : nv2[j]? with
            | none => rw [e3] at q; exact False.elim q
            | some o =>
              cases o with
              | none => rw [e3] at q; exact False.elim q
              | some x =>
                rw [e3] at q
                simp only at q
                cases e4 : thaw st2 st.length 40 x with
                | none => rw [e4] at q; exact False.elim q
                | some y =>
                  rw [e4] at q
                  simp only at q
                  have c := rl_leave r0 x02 r2 hc.1.1
                  have back : Ext H ⟨m0, f2⟩ H2 ⟨m0, f2⟩ := ⟨x02.keep, ⟨[], by simp⟩, fun _ h n => absurd h n, rfl⟩
                  refine ⟨⟨m0, f2⟩, nv2.set j (some y), st2.take st.length, c.2, ⟨by rw [List.length_set]; exact n2.len, fun i z hz => ?_⟩, AftS.ext back q⟩
                  by_cases hij : i = j
                  · subst hij
                    have hl : i < nv2.length := (List.getElem?_eq_some_iff.mp e3).1
                    rw [List.getElem?_set_self hl] at hz
                    cases hz
                    obtain ⟨v, hv, rv⟩ := n2.at' i x e3
                    have := thaw_rep r2 40 v x y rv e4
                    rw [c.1] at this
                    exact ⟨v, hv, this⟩
                  · rw [List.getElem?_set_ne (Ne.symm hij)] at hz
                    obtain ⟨v, hv, rv⟩ := n2.at' i z hz
                    have := below_rep rv (othersLow_of hc.2 hz (by simpa using hij))
                    rw [c.1] at this
                    exact ⟨v, hv, this⟩
          · rw [if_neg hc] at q; exact False.elim q
        | bk _ => simp only [e2, ret] at q; exact False.elim q
        | ct _ => simp only [e2, ret] at q; exact False.elim q
        | rt _ => simp only [e2, ret] at q; exact False.elim q
        | ex _ _ => simp only [e2, ret] at q; exact False.elim q
    | bk _ => simp only [e1, ret] at q; exact False.elim q
    | ct _ => simp only [e1, ret] at q; exact False.elim q
    | rt _ => simp only [e1, ret] at q; exact False.elim q
    | ex _ _ => simp only [e1, ret] at q; exact False.elim q
end
end PV
end

section
/-! isinstance's facts of classes, from those that the end can show. -/
namespace PV
open PySem PySem.W
variable {K : Frag} {R C C1 C2 C3 C4 : Addr} {T : String} {t cls c1 c2 c3 c4 : Value} {b b1 b2 b3 b4 : Bool}
theorem cls_some (h : hasDictIn K C = true) : (clsIn K C).isSome = true := by
  obtain ⟨cd, hc, _⟩ := any_some h
  rw [hc]; rfl
theorem kit_self : kitOne K (.ref C) (.ref C) = some true := if_pos (beq_self_eq_true _)
theorem kit_ref (hne : (t == Value.ref C) = false) (hd : hasDictIn K C = true) (ht : typeIn K (.ref C) = some (.type "type")) (hs : subIn K t (.ref C) = some b) : kitOne K t (.ref C) = some b := by
  unfold kitOne
  rw [hne, if_neg (by decide)]
  show (if ((clsIn K C).isSome && typeIn K (.ref C) == some (.type "type")) = true then subIn K t (.ref C) else none) = some b
  rw [cls_some hd, ht, if_pos (by rfl)]; exact hs
theorem kit_non (hd : hasDictIn K C = true) (ht : typeIn K (.ref C) = some (.type "type")) (hs : subIn K (.type "NoneType") (.ref C) = some b) : kitOne K (.type "NoneType") (.ref C) = some b := kit_ref rfl hd ht hs
theorem kit_typ (hm : kitMeta T = true) (hs : subIn K (.ref R) (.type T) = some b) : kitOne K (.ref R) (.type T) = some b := by
  unfold kitOne
  rw [show (Value.ref R == Value.type T) = false from rfl, if_neg (by decide)]
  show (if kitMeta T = true then subIn K (.ref R) (.type T) else none) = some b
  rw [if_pos hm]; exact hs
theorem exm_four (h1 : exmOne K cls c1 = some b1) (h2 : exmOne K cls c2 = some b2) (h3 : exmOne K cls c3 = some b3) (h4 : exmOne K cls c4 = some b4) (h : (b1 || (b2 || (b3 || (b4 || false)))) = true) : exmAny K cls [c1, c2, c3, c4] = some true := by
  simp only [exmAny, h1, h2, h3, h4]
  rw [h]
end PV
end

section
/-! The defs of the text as plain functions. -/
namespace Gk02
open PySem PySem.Spec PyProof.Rows L2 PV
noncomputable def m_lowest : Fn := runF false 2 3 (sSeq (sIf (tB' (c2 (dEq) (cVar 1) (cC (.int 0)))) (sRaise0 "NoParts") (sNext))
    (sSeq (sAsg (cN fGcd (aCons (cVar 0) (aCons (cVar 1) (aNil)))) (gNm 2))
    (sSeq (sIf (tB' (c2 (dCmp (fun i j => decide (i < j))) (cVar 1) (cC (.int 0)))) (sAsg (c1 dNeg (cVar 2)) (gNm 2)) (sNext))
    (sRet (cTup (aCons (c2 dDivZ (cVar 0) (cVar 2)) (aCons (c2 dDivZ (cVar 1) (cVar 2)) (aNil))))))))
noncomputable def m_plus : Fn := runF false 2 6 (sSeq (sAsg (cTup (aCons (cVar 0) (aCons (cVar 1) (aNil)))) (gSeq 2 (gCons (gSeq 2 (gCons (gNm 2) (gCons (gNm 3) (gNil)))) (gCons (gSeq 2 (gCons (gNm 4) (gCons (gNm 5) (gNil)))) (gNil)))))
    (sRet (cCall (m_lowest) (aCons (c2 dAdd (c2 dMul (cVar 2) (cVar 5)) (c2 dMul (cVar 4) (cVar 3))) (aCons (c2 dMul (cVar 3) (cVar 5)) (aNil))))))
noncomputable def m_less : Fn := runF false 2 6 (sSeq (sAsg (cTup (aCons (cVar 0) (aCons (cVar 1) (aNil)))) (gSeq 2 (gCons (gSeq 2 (gCons (gNm 2) (gCons (gNm 3) (gNil)))) (gCons (gSeq 2 (gCons (gNm 4) (gCons (gNm 5) (gNil)))) (gNil)))))
    (sRet (cCall (m_lowest) (aCons (c2 dSub (c2 dMul (cVar 2) (cVar 5)) (c2 dMul (cVar 4) (cVar 3))) (aCons (c2 dMul (cVar 3) (cVar 5)) (aNil))))))
noncomputable def m_times : Fn := runF false 2 6 (sSeq (sAsg (cTup (aCons (cVar 0) (aCons (cVar 1) (aNil)))) (gSeq 2 (gCons (gSeq 2 (gCons (gNm 2) (gCons (gNm 3) (gNil)))) (gCons (gSeq 2 (gCons (gNm 4) (gCons (gNm 5) (gNil)))) (gNil)))))
    (sRet (cCall (m_lowest) (aCons (c2 dMul (cVar 2) (cVar 4)) (aCons (c2 dMul (cVar 3) (cVar 5)) (aNil))))))
noncomputable def m_over : Fn := runF false 2 6 (sSeq (sAsg (cTup (aCons (cVar 0) (aCons (cVar 1) (aNil)))) (gSeq 2 (gCons (gSeq 2 (gCons (gNm 2) (gCons (gNm 3) (gNil)))) (gCons (gSeq 2 (gCons (gNm 4) (gCons (gNm 5) (gNil)))) (gNil)))))
    (sRet (cCall (m_lowest) (aCons (c2 dMul (cVar 2) (cVar 5)) (aCons (c2 dMul (cVar 3) (cVar 4)) (aNil))))))
noncomputable def m_sign_of : Fn := runF false 1 2 (sSeq (sAsg (c2 dIx (cVar 0) (cC (.int 0))) (gNm 1))
    (sSeq (sIf (tB' (c2 (dEq) (cVar 1) (cC (.int 0)))) (sRet (cC (.int 0))) (sNext))
    (sRet (cIf (tB' (c2 (dCmp (fun i j => decide (j < i))) (cVar 1) (cC (.int 0)))) (cC (.int 1)) (c1 dNeg (cC (.int 1)))))))
noncomputable def m_compared : Fn := runF false 2 2 (sRet (cCall (m_sign_of) (aCons (cCall (m_less) (aCons (cVar 0) (aCons (cVar 1) (aNil)))) (aNil))))
noncomputable def m_l_begin : Fn := runF false 1 2 (sSeq (sAsg (own (cN fList (aCons (cSl dSl (cVar 0) (cNo) (cPart (cC (.int 63)))) (aNil)))) (gNm 1))
    (sSeq (sIf (tB' (c2 (dEq) (cVar 1) (frz (cLst (aNil))))) (sAsg (own (cLst (aCons (cC (.int 17)) (aNil)))) (gNm 1)) (sNext))
    (sRet (cDict (pCons (cC (.str "cells")) (cVar 1) (pCons (cC (.str "turn")) (cC (.int 0)) (pNil)))))))
noncomputable def m_l_take : Fn := runF false 2 8 (sSeq (sAsg (c2 dAdd (c2 dGetD (cVar 0) (cC (.str "turn"))) (cC (.int 1))) (gNm 2))
    (sSeq (sDput (cVar 2) (cVar 0) (cC (.str "turn")))
    (sSeq (sAsg (c2 dMod (cVar 2) (cN fLen (aCons (c2 dGetD (cVar 0) (cC (.str "cells"))) (aNil)))) (gNm 3))
    (sSeq (sAsg (c2 dIx (c2 dGetD (cVar 0) (cC (.str "cells"))) (cVar 3)) (gNm 4))
    (sSeq (sIf (tB' (c2 (dCmp (fun i j => decide (j ≤ i))) (cVar 4) (c2 dPow (cC (.int 10)) (cC (.int 18))))) (sSeq (sAsg (cN fDivmod (aCons (cVar 4) (aCons (cVar 1) (aNil)))) (gSeq 2 (gCons (gSubL (c2 dGetD (cVar 0) (cC (.str "cells"))) (cVar 3)) (gCons (gNm 7) (gNil)))))
    (sRet (cVar 7))) (sNext))
    (sSeq (sAsg (c2 dAdd (c2 dMod (cVar 4) (cC (.int 2147483629))) (c2 dMul (c2 dMod (c2 dDiv (cVar 4) (cC (.int 2147483629))) (cC (.int 40009))) (cC (.int 977)))) (gNm 5))
    (sSeq (sAsg (c2 dMod (c2 dMul (c2 dAdd (c2 dAdd (cVar 5) (c2 dMul (c2 dMul (cVar 2) (cVar 2)) (cC (.int 6007)))) (cC (.int 29))) (cC (.int 48271))) (cC (.int 2147483647))) (gNm 6))
    (sSeq (sAsg (c2 dMod (c2 dMul (cVar 6) (cVar 6)) (cC (.int 2147483579))) (gNm 6))
    (sRet (c2 dMod (c2 dDiv (c2 dMod (c2 dMul (c2 dAdd (cVar 6) (c2 dMul (cVar 2) (cC (.int 103049)))) (cC (.int 69621))) (cC (.int 2147483629))) (cC (.int 64))) (cVar 1)))))))))))
noncomputable def m_l_same : Nat → Fn
  | 0 => fun _ _ => .bad
  | n + 1 => runF false 2 4 (sSeq (sIf (tB' (c1 (dIsaL ["list", "tuple"]) (cVar 1))) (sSeq (sIf (tOr' (tB' (c2 (dNe) (c1 (dIsa "list") (cVar 0)) (c1 (dIsa "list") (cVar 1)))) (tB' (c2 (dNe) (c1 (dIsa "tuple") (cVar 0)) (c1 (dIsa "tuple") (cVar 1))))) (sRet (cC (.bl false))) (sNext))
    (sRet (vAnd (c2 (dEq) (cN fLen (aCons (cVar 0) (aNil))) (cN fLen (aCons (cVar 1) (aNil)))) (cN fAll (aCons (frz (cLc [2, 3] (iZipA (aCons (cVar 0) (aCons (cVar 1) (aNil)))) (gSeq 2 (gCons (gNm 2) (gCons (gNm 3) (gNil)))) (tYes') (cCall (m_l_same n) (aCons (cVar 2) (aCons (cVar 3) (aNil)))))) (aNil)))))) (sNext))
    (sSeq (sIf (tOr' (tB' (c2 (dIsN) (cVar 1) (cC .non))) (tB' (c1 (dIsaL ["bool", "str"]) (cVar 1)))) (sRet (vAnd (c2 (dEq) (cVar 0) (cVar 1)) (vAnd (c2 (dEq) (c1 (dIsa "bool") (cVar 0)) (c1 (dIsa "bool") (cVar 1))) (c2 (dEq) (c2 (dIsN) (cVar 0) (cC .non)) (c2 (dIsN) (cVar 1) (cC .non)))))) (sNext))
    (sRet (vAnd (c1 (dIsa "int") (cVar 0)) (vAnd (vNot (c1 (dIsa "bool") (cVar 0))) (c2 (dEq) (cVar 0) (cVar 1)))))))
noncomputable def m_l_low : Fn := runF false 2 6 (sSeq (sPar 2 3 (aCons (cN fAbs (aCons (cVar 0) (aNil))) (aCons (cN fAbs (aCons (cVar 1) (aNil))) (aNil))))
    (sSeq (sFor (iRng (aCons (cC (.int 20000)) (aNil))) (gNm 4) (sSeq (sIf (tB' (c2 (dEq) (cVar 3) (cC (.int 0)))) (sSeq (sAsg (cIf (tB' (c2 (dCmp (fun i j => decide (j < i))) (cVar 1) (cC (.int 0)))) (cC (.int 1)) (c1 dNeg (cC (.int 1)))) (gNm 5))
    (sRet (cTup (aCons (c2 dDiv (c2 dMul (cVar 5) (cVar 0)) (cVar 2)) (aCons (c2 dDiv (c2 dMul (cVar 5) (cVar 1)) (cVar 2)) (aNil)))))) (sNext))
    (sPar 2 3 (aCons (cVar 3) (aCons (c2 dMod (cVar 2) (cVar 3)) (aNil))))))
    (sRet (cC .non))))
noncomputable def m_l_add : Fn := runF false 2 2 (sRet (cCall (m_l_low) (aCons (c2 dAdd (c2 dMul (c2 dIx (cVar 0) (cC (.int 0))) (c2 dIx (cVar 1) (cC (.int 1)))) (c2 dMul (c2 dIx (cVar 1) (cC (.int 0))) (c2 dIx (cVar 0) (cC (.int 1))))) (aCons (c2 dMul (c2 dIx (cVar 0) (cC (.int 1))) (c2 dIx (cVar 1) (cC (.int 1)))) (aNil)))))
noncomputable def m_l_mul : Fn := runF false 2 2 (sRet (cCall (m_l_low) (aCons (c2 dMul (c2 dIx (cVar 0) (cC (.int 0))) (c2 dIx (cVar 1) (cC (.int 0)))) (aCons (c2 dMul (c2 dIx (cVar 0) (cC (.int 1))) (c2 dIx (cVar 1) (cC (.int 1)))) (aNil)))))
noncomputable def m_l_neg : Fn := runF false 1 1 (sRet (cTup (aCons (c2 dSub (cC (.int 0)) (c2 dIx (cVar 0) (cC (.int 0)))) (aCons (c2 dIx (cVar 0) (cC (.int 1))) (aNil)))))
noncomputable def m_l_fraction : Fn := runF false 1 2 (sSeq (sAsg (cCall (m_l_take) (aCons (cVar 0) (aCons (cC (.int 8)) (aNil)))) (gNm 1))
    (sSeq (sIf (tB' (c2 (dEq) (cVar 1) (cC (.int 0)))) (sRet (cCall (m_l_low) (aCons (c2 dSub (cCall (m_l_take) (aCons (cVar 0) (aCons (c2 dAdd (c2 dMul (cC (.int 2)) (c2 dPow (cC (.int 10)) (cC (.int 6)))) (cC (.int 1))) (aNil)))) (c2 dPow (cC (.int 10)) (cC (.int 6)))) (aCons (c2 dAdd (cC (.int 1)) (cCall (m_l_take) (aCons (cVar 0) (aCons (c2 dPow (cC (.int 10)) (cC (.int 6))) (aNil))))) (aNil))))) (sNext))
    (sRet (cCall (m_l_low) (aCons (c2 dSub (cCall (m_l_take) (aCons (cVar 0) (aCons (cC (.int 13)) (aNil)))) (cC (.int 6))) (aCons (c2 dIx (frz (cLst (aCons (cC (.int 1)) (aCons (cC (.int 1)) (aCons (cC (.int 1)) (aCons (cC (.int 2)) (aCons (cC (.int 3)) (aCons (cC (.int 5)) (aCons (cC (.int 12)) (aNil)))))))))) (c2 dSub (cVar 1) (cC (.int 1)))) (aNil)))))))
noncomputable def m_l_refused : Fn := runF false 3 5 (sSeq (sAsg (cC .non) (gNm 3))
    (sCaught (sIf (tB' (c2 (dEq) (cVar 0) (cC (.int 0)))) (sDrop (cCall (m_over) (aCons (cVar 1) (aCons (cVar 2) (aNil))))) (sDrop (cCall (m_lowest) (aCons (cVar 1) (aCons (cVar 2) (aNil)))))) 3 (tst1 "NoParts" (true && true))))
noncomputable def m_l_pair_right : Fn := runF false 2 9 (sSeq (sPar 2 3 (aCons (cN fRepr (aCons (frz (cLst (aCons (cVar 0) (aCons (cVar 1) (aNil))))) (aNil))) (aCons (cCall (m_l_add) (aCons (cVar 0) (aCons (cCall (m_l_neg) (aCons (cVar 1) (aNil))) (aNil)))) (aNil))))
    (sSeq (sFz (sSeq (sAsg (own (cLst (aCons (cCall (m_l_add) (aCons (cVar 0) (aCons (cVar 1) (aNil)))) (aCons (cVar 3) (aCons (cCall (m_l_mul) (aCons (cVar 0) (aCons (cVar 1) (aNil)))) (aCons (c2 dSub (cN fInt (aCons (c2 (dCmp (fun i j => decide (j < i))) (c2 dIx (cVar 0) (cC (.int 0))) (cC (.int 0))) (aNil))) (cN fInt (aCons (c2 (dCmp (fun i j => decide (i < j))) (c2 dIx (cVar 0) (cC (.int 0))) (cC (.int 0))) (aNil)))) (aNil))))))) (gNm 4))
    (sApp (cVar 4) (c2 dSub (cN fInt (aCons (c2 (dCmp (fun i j => decide (j < i))) (c2 dIx (cVar 3) (cC (.int 0))) (cC (.int 0))) (aNil))) (cN fInt (aCons (c2 (dCmp (fun i j => decide (i < j))) (c2 dIx (cVar 3) (cC (.int 0))) (cC (.int 0))) (aNil)))))) 4)
    (sSeq (sAsg (frz (cLst (aCons (cCall (m_plus) (aCons (cVar 0) (aCons (cVar 1) (aNil)))) (aCons (cCall (m_less) (aCons (cVar 0) (aCons (cVar 1) (aNil)))) (aCons (cCall (m_times) (aCons (cVar 0) (aCons (cVar 1) (aNil)))) (aCons (cCall (m_sign_of) (aCons (cVar 0) (aNil))) (aCons (cCall (m_compared) (aCons (cVar 0) (aCons (cVar 1) (aNil)))) (aNil)))))))) (gNm 5))
    (sSeq (sAsg (frz (cLst (aCons (frz (cN fList (aCons (cVar 0) (aNil)))) (aCons (frz (cN fList (aCons (cVar 1) (aNil)))) (aNil))))) (gNm 6))
    (sSeq (sAsg (frz (cLst (aCons (cCall (m_plus) (aCons (c2 dIx (cVar 6) (cC (.int 0))) (aCons (c2 dIx (cVar 6) (cC (.int 1))) (aNil)))) (aCons (cCall (m_less) (aCons (c2 dIx (cVar 6) (cC (.int 0))) (aCons (c2 dIx (cVar 6) (cC (.int 1))) (aNil)))) (aCons (cCall (m_times) (aCons (c2 dIx (cVar 6) (cC (.int 0))) (aCons (c2 dIx (cVar 6) (cC (.int 1))) (aNil)))) (aNil)))))) (gNm 7))
    (sSeq (sAsg (c2 dAdd (cVar 7) (frz (cLst (aCons (cCall (m_sign_of) (aCons (c2 dIx (cVar 6) (cC (.int 0))) (aNil))) (aCons (cCall (m_compared) (aCons (c2 dIx (cVar 6) (cC (.int 0))) (aCons (c2 dIx (cVar 6) (cC (.int 1))) (aNil)))) (aNil)))))) (gNm 7))
    (sSeq (sIf (tNot' (tB' (cCall (m_l_same 6) (aCons (frz (cLst (aCons (cVar 5) (aCons (cVar 7) (aCons (frz (cLst (aCons (cCall (m_plus) (aCons (cVar 1) (aCons (cVar 0) (aNil)))) (aCons (cCall (m_times) (aCons (cVar 1) (aCons (cVar 0) (aNil)))) (aNil))))) (aNil)))))) (aCons (frz (cLst (aCons (cVar 4) (aCons (cVar 4) (aCons (frz (cLst (aCons (c2 dIx (cVar 4) (cC (.int 0))) (aCons (c2 dIx (cVar 4) (cC (.int 2))) (aNil))))) (aNil)))))) (aNil)))))) (sRet (cC (.bl false))) (sNext))
    (sSeq (sIf (tB' (c2 (dEq) (c2 dIx (cVar 1) (cC (.int 0))) (cC (.int 0)))) (sRet (vAnd (cCall (m_l_refused) (aCons (cC (.int 0)) (aCons (cVar 0) (aCons (cVar 1) (aNil))))) (cCall (m_l_refused) (aCons (cC (.int 0)) (aCons (c2 dIx (cVar 6) (cC (.int 0))) (aCons (c2 dIx (cVar 6) (cC (.int 1))) (aNil))))))) (sNext))
    (sSeq (sAsg (cCall (m_l_low) (aCons (c2 dMul (c2 dIx (cVar 0) (cC (.int 0))) (c2 dIx (cVar 1) (cC (.int 1)))) (aCons (c2 dMul (c2 dIx (cVar 0) (cC (.int 1))) (c2 dIx (cVar 1) (cC (.int 0)))) (aNil)))) (gNm 8))
    (sRet (vAnd (cCall (m_l_same 6) (aCons (frz (cLst (aCons (cCall (m_over) (aCons (cVar 0) (aCons (cVar 1) (aNil)))) (aCons (cCall (m_over) (aCons (c2 dIx (cVar 6) (cC (.int 0))) (aCons (c2 dIx (cVar 6) (cC (.int 1))) (aNil)))) (aNil))))) (aCons (c2 dMul (frz (cLst (aCons (cVar 8) (aNil)))) (cC (.int 2))) (aNil)))) (c2 (dEq) (cN fRepr (aCons (frz (cLst (aCons (cVar 0) (aCons (cVar 1) (aNil))))) (aNil))) (cVar 2)))))))))))))
noncomputable def m_law : Fn := runF false 1 7 (sSeq (sAsg (cCall (m_l_begin) (aCons (cVar 0) (aNil))) (gNm 1))
    (sSeq (sFor (iRng (aCons (cC (.int 20)) (aNil))) (gNm 2) (sSeq (sPar 3 4 (aCons (cCall (m_l_fraction) (aCons (cVar 1) (aNil))) (aCons (cCall (m_l_fraction) (aCons (cVar 1) (aNil))) (aNil))))
    (sSeq (sAsg (c2 dIx (frz (cLst (aCons (cVar 4) (aCons (cVar 3) (aCons (cTup (aCons (cC (.int 0)) (aCons (cC (.int 1)) (aNil)))) (aCons (cCall (m_l_neg) (aCons (cVar 3) (aNil))) (aCons (cVar 4) (aCons (cVar 4) (aNil))))))))) (cCall (m_l_take) (aCons (cVar 1) (aCons (cC (.int 6)) (aNil))))) (gNm 4))
    (sSeq (sIf (tOr' (tNot' (tB' (cCall (m_l_pair_right) (aCons (cVar 3) (aCons (cVar 4) (aNil)))))) (tNot' (tB' (cCall (m_l_pair_right) (aCons (cVar 4) (aCons (cVar 3) (aNil))))))) (sRet (cC (.bl false))) (sNext))
    (sSeq (sPar 5 6 (aCons (c2 dSub (cCall (m_l_take) (aCons (cVar 1) (aCons (cC (.int 241)) (aNil)))) (cC (.int 120))) (aCons (c2 dSub (cCall (m_l_take) (aCons (cVar 1) (aCons (cC (.int 121)) (aNil)))) (cC (.int 60))) (aNil))))
    (sIf (tB' (c2 (dEq) (cVar 6) (cC (.int 0)))) (sIf (tNot' (tB' (cCall (m_l_refused) (aCons (cC (.int 1)) (aCons (cVar 5) (aCons (cC (.int 0)) (aNil))))))) (sRet (cC (.bl false))) (sNext)) (sIf (tNot' (tB' (cCall (m_l_same 6) (aCons (cCall (m_lowest) (aCons (cVar 5) (aCons (cVar 6) (aNil)))) (aCons (cCall (m_l_low) (aCons (cVar 5) (aCons (cVar 6) (aNil)))) (aNil)))))) (sRet (cC (.bl false))) (sNext))))))))
    (sRet (cCall (m_l_same 6) (aCons (frz (cLst (aCons (cCall (m_lowest) (aCons (cC (.int 0)) (aCons (c1 dNeg (cC (.int 5))) (aNil)))) (aCons (cCall (m_lowest) (aCons (c1 dNeg (cC (.int 6))) (aCons (c1 dNeg (cC (.int 4))) (aNil)))) (aCons (cCall (m_lowest) (aCons (c2 dPow (cC (.int 10)) (cC (.int 30))) (aCons (c1 dNeg (c2 dPow (cC (.int 10)) (cC (.int 28)))) (aNil)))) (aNil)))))) (aCons (frz (cLst (aCons (cTup (aCons (cC (.int 0)) (aCons (cC (.int 1)) (aNil)))) (aCons (cTup (aCons (cC (.int 3)) (aCons (cC (.int 2)) (aNil)))) (aCons (cTup (aCons (c1 dNeg (cC (.int 100))) (aCons (cC (.int 1)) (aNil)))) (aNil)))))) (aNil)))))))
end Gk02
end

section
namespace PV
open PySem L2
theorem lt250 {a : Nat} (h : a < 1606938044258990275541962092341162602522202993782792835301376) : a < 2 ^ 250 :=
  Nat.lt_trans h (by decide)
theorem md (x : Int) {M : Int} (h : 0 < M) : 0 ≤ x % M ∧ x % M < M := ⟨Int.emod_nonneg x (by omega), Int.emod_lt_of_pos x h⟩
theorem wp_take {e : Bool} {cs : List Int} {t : Int} {r : Sto} {sz : Int} {N : Nat} {P : D → Sto → Prop} {E : Exn → Sto → Prop} {u : Dep P E}
    (hne : cs ≠ []) (hle : cs.length ≤ 63) (h0 : 0 ≤ t) (h1 : t ≤ N) (hN : N ≤ 1000000) (hs : 0 < sz) (hs2 : sz ≤ 1000000000000000000)
    (q : ∀ g cs' t', cs' ≠ [] → cs'.length ≤ 63 → 0 ≤ t' → t' ≤ ((N + 1 : Nat) : Int) → 0 ≤ g → g < sz → P (.int g) (bx e cs' t' ++ r)) :
    wp P E u (Gk02.m_l_take [.ref (bB e), .int sz] (bx e cs t ++ r)) := by
  unfold Gk02.m_l_take
  have hl : 0 < cs.length := List.length_pos_iff.mpr hne
  have hm0 : 0 ≤ (t + 1) % (cs.length : Int) := Int.emod_nonneg _ (by omega)
  have hm1 : (t + 1) % (cs.length : Int) < cs.length := Int.emod_lt_of_pos _ (by omega)
  have hix := ix_mod hm0 hm1
  generalize hi : (t + 1) % (cs.length : Int) = i at hix hm0 hm1
  have hij : i.toNat < cs.length := by omega
  simp only [↓w_ok, ↓w_exc, ↓w_bad, ↓w_bnd, ↓w_ret, ↓w_badm, ↓w_lift, ↓o_some, ↓o_none, ↓o_map, ↓o_ite, ↓c_true, ↓b_true, ↓b_false, ↓f_nx, ↓f_rt, ↓f_bk, ↓f_ct, ↓f_ex, ↓w_var, ↓w_c, ↓w_c2, ↓w_c1, ↓w_cN, ↓w_nil, ↓w_cons, ↓w_tup, ↓w_lst, ↓w_frz, ↓w_own, ↓w_call, ↓w_no, ↓w_part, ↓w_sl, ↓w_tB, ↓w_tAnd, ↓w_tOr, ↓w_tNot, ↓w_tYes, ↓w_vAnd, ↓w_vOr, ↓w_vNot, ↓w_if, ↓w_pNil, ↓w_pCons, ↓w_dict, ↓w_lc, ↓w_iSeq, ↓w_iRng, ↓w_next, ↓w_seq, ↓w_do, ↓w_sret, ↓w_sretN, ↓w_drop, ↓w_sif, ↓w_brk, ↓w_cnt, ↓w_asg, ↓w_nm, ↓w_gnil, ↓w_gcons, ↓w_gseq, ↓w_gsub, ↓w_par, ↓w_for, ↓w_dput, ↓w_app, ↓l_nx, ↓l_ct, ↓l_bk, ↓l_rt, ↓l_ex, ↓w_loop0, ↓w_run1, ↓w_run2, ↓w_run3, ↓e_rt, ↓e_nx, ↓e_ex, e_rt, e_nx, e_ex, l_nx, l_ct, l_bk, l_rt, l_ex, k_add, k_sub, k_mul, k_div, k_mod, k_pow, k_neg, k_cmp, k_eqi, k_nei, k_divmod, k_gcd, k_abs, i_tup, i_lst, i_ro, lo_lst, st_lst, st_ro, st_tup, o_some, o_none, o_map, o_ite, c_true, b_true, b_false, f_nx, f_rt, f_bk, f_ct, f_ex, boolD_bl, intD_int, two_two, w_ok, bx_turn, bx_cells, bx_put, bx_lenc, bx_ix, bx_sub, List.getElem?_cons_zero, List.getElem?_cons_succ, List.getElem?_nil, List.set_cons_zero, List.set_cons_succ, List.map_cons, List.map_nil, List.replicate_succ, List.replicate_zero, List.cons_append, List.nil_append, List.length_cons, List.length_nil, szl, isa_int_non, isa_int_bl, isa_int_int, isa_int_str, isa_int_tup, isa_int_lst, isa_int_ro, isa_bool_non, isa_bool_bl, isa_bool_int, isa_bool_str, isa_bool_tup, isa_bool_lst, isa_bool_ro, isa_tuple_non, isa_tuple_bl, isa_tuple_int, isa_tuple_str, isa_tuple_tup, isa_tuple_lst, isa_tuple_ro, isa_list_non, isa_list_bl, isa_list_int, isa_list_str, isa_list_tup, isa_list_lst, isa_list_ro, isa_str_non, isa_str_bl, isa_str_int, isa_str_str, isa_str_tup, isa_str_lst, isa_str_ro, isl_non, isl_bl, isl_int, isl_str, isl_tup, isl_lst, isl_ro, Nat.zero_add, Nat.reduceAdd, Nat.reduceSub, Nat.reduceLeDiff, Nat.reduceLT, Nat.reducePow, Int.reduceNeg, decide_true, decide_false, Bool.not_true, Bool.not_false, Int.reduceToNat, Int.reducePow, Int.reduceAdd, Int.reduceSub, Int.reduceMul, nco, eq_self, Int.reduceEq, Int.reduceLT, Int.reduceLE, w_run1, w_run2, w_run3, fl_tup, fl_lst, ix_tup0, ix_tup1, Bool.false_eq_true, reduceCtorEq, ↓w_comp0, ↓w_comp1, wipe0, wipe1, fall_lst, bools0, bools1, Option.map_some, List.all_cons, List.all_nil, id, Bool.and_true, Bool.and_false, Bool.true_and, Bool.false_and, ↓t_rt, ↓t_nx, t_rt, t_nx]
  refine wc_i (by omega) ?_
  rw [hi]
  simp only [↓w_ok, ↓w_exc, ↓w_bad, ↓w_bnd, ↓w_ret, ↓w_badm, ↓w_lift, ↓o_some, ↓o_none, ↓o_map, ↓o_ite, ↓c_true, ↓b_true, ↓b_false, ↓f_nx, ↓f_rt, ↓f_bk, ↓f_ct, ↓f_ex, ↓w_var, ↓w_c, ↓w_c2, ↓w_c1, ↓w_cN, ↓w_nil, ↓w_cons, ↓w_tup, ↓w_lst, ↓w_frz, ↓w_own, ↓w_call, ↓w_no, ↓w_part, ↓w_sl, ↓w_tB, ↓w_tAnd, ↓w_tOr, ↓w_tNot, ↓w_tYes, ↓w_vAnd, ↓w_vOr, ↓w_vNot, ↓w_if, ↓w_pNil, ↓w_pCons, ↓w_dict, ↓w_lc, ↓w_iSeq, ↓w_iRng, ↓w_next, ↓w_seq, ↓w_do, ↓w_sret, ↓w_sretN, ↓w_drop, ↓w_sif, ↓w_brk, ↓w_cnt, ↓w_asg, ↓w_nm, ↓w_gnil, ↓w_gcons, ↓w_gseq, ↓w_gsub, ↓w_par, ↓w_for, ↓w_dput, ↓w_app, ↓l_nx, ↓l_ct, ↓l_bk, ↓l_rt, ↓l_ex, ↓w_loop0, ↓w_run1, ↓w_run2, ↓w_run3, ↓e_rt, ↓e_nx, ↓e_ex, e_rt, e_nx, e_ex, l_nx, l_ct, l_bk, l_rt, l_ex, k_add, k_sub, k_mul, k_div, k_mod, k_pow, k_neg, k_cmp, k_eqi, k_nei, k_divmod, k_gcd, k_abs, i_tup, i_lst, i_ro, lo_lst, st_lst, st_ro, st_tup, o_some, o_none, o_map, o_ite, c_true, b_true, b_false, f_nx, f_rt, f_bk, f_ct, f_ex, boolD_bl, intD_int, two_two, w_ok, bx_turn, bx_cells, bx_put, bx_lenc, bx_ix, bx_sub, List.getElem?_cons_zero, List.getElem?_cons_succ, List.getElem?_nil, List.set_cons_zero, List.set_cons_succ, List.map_cons, List.map_nil, List.replicate_succ, List.replicate_zero, List.cons_append, List.nil_append, List.length_cons, List.length_nil, szl, isa_int_non, isa_int_bl, isa_int_int, isa_int_str, isa_int_tup, isa_int_lst, isa_int_ro, isa_bool_non, isa_bool_bl, isa_bool_int, isa_bool_str, isa_bool_tup, isa_bool_lst, isa_bool_ro, isa_tuple_non, isa_tuple_bl, isa_tuple_int, isa_tuple_str, isa_tuple_tup, isa_tuple_lst, isa_tuple_ro, isa_list_non, isa_list_bl, isa_list_int, isa_list_str, isa_list_tup, isa_list_lst, isa_list_ro, isa_str_non, isa_str_bl, isa_str_int, isa_str_str, isa_str_tup, isa_str_lst, isa_str_ro, isl_non, isl_bl, isl_int, isl_str, isl_tup, isl_lst, isl_ro, Nat.zero_add, Nat.reduceAdd, Nat.reduceSub, Nat.reduceLeDiff, Nat.reduceLT, Nat.reducePow, Int.reduceNeg, decide_true, decide_false, Bool.not_true, Bool.not_false, Int.reduceToNat, Int.reducePow, Int.reduceAdd, Int.reduceSub, Int.reduceMul, nco, eq_self, Int.reduceEq, Int.reduceLT, Int.reduceLE, w_run1, w_run2, w_run3, fl_tup, fl_lst, ix_tup0, ix_tup1, Bool.false_eq_true, reduceCtorEq, ↓w_comp0, ↓w_comp1, wipe0, wipe1, fall_lst, bools0, bools1, Option.map_some, List.all_cons, List.all_nil, id, Bool.and_true, Bool.and_false, Bool.true_and, Bool.false_and, ↓t_rt, ↓t_nx, t_rt, t_nx]
  refine wo_i (a := cs[i.toNat]) (by unfold atI; rw [hix]; exact List.getElem?_eq_getElem hij) ?_
  simp only [↓w_ok, ↓w_exc, ↓w_bad, ↓w_bnd, ↓w_ret, ↓w_badm, ↓w_lift, ↓o_some, ↓o_none, ↓o_map, ↓o_ite, ↓c_true, ↓b_true, ↓b_false, ↓f_nx, ↓f_rt, ↓f_bk, ↓f_ct, ↓f_ex, ↓w_var, ↓w_c, ↓w_c2, ↓w_c1, ↓w_cN, ↓w_nil, ↓w_cons, ↓w_tup, ↓w_lst, ↓w_frz, ↓w_own, ↓w_call, ↓w_no, ↓w_part, ↓w_sl, ↓w_tB, ↓w_tAnd, ↓w_tOr, ↓w_tNot, ↓w_tYes, ↓w_vAnd, ↓w_vOr, ↓w_vNot, ↓w_if, ↓w_pNil, ↓w_pCons, ↓w_dict, ↓w_lc, ↓w_iSeq, ↓w_iRng, ↓w_next, ↓w_seq, ↓w_do, ↓w_sret, ↓w_sretN, ↓w_drop, ↓w_sif, ↓w_brk, ↓w_cnt, ↓w_asg, ↓w_nm, ↓w_gnil, ↓w_gcons, ↓w_gseq, ↓w_gsub, ↓w_par, ↓w_for, ↓w_dput, ↓w_app, ↓l_nx, ↓l_ct, ↓l_bk, ↓l_rt, ↓l_ex, ↓w_loop0, ↓w_run1, ↓w_run2, ↓w_run3, ↓e_rt, ↓e_nx, ↓e_ex, e_rt, e_nx, e_ex, l_nx, l_ct, l_bk, l_rt, l_ex, k_add, k_sub, k_mul, k_div, k_mod, k_pow, k_neg, k_cmp, k_eqi, k_nei, k_divmod, k_gcd, k_abs, i_tup, i_lst, i_ro, lo_lst, st_lst, st_ro, st_tup, o_some, o_none, o_map, o_ite, c_true, b_true, b_false, f_nx, f_rt, f_bk, f_ct, f_ex, boolD_bl, intD_int, two_two, w_ok, bx_turn, bx_cells, bx_put, bx_lenc, bx_ix, bx_sub, List.getElem?_cons_zero, List.getElem?_cons_succ, List.getElem?_nil, List.set_cons_zero, List.set_cons_succ, List.map_cons, List.map_nil, List.replicate_succ, List.replicate_zero, List.cons_append, List.nil_append, List.length_cons, List.length_nil, szl, isa_int_non, isa_int_bl, isa_int_int, isa_int_str, isa_int_tup, isa_int_lst, isa_int_ro, isa_bool_non, isa_bool_bl, isa_bool_int, isa_bool_str, isa_bool_tup, isa_bool_lst, isa_bool_ro, isa_tuple_non, isa_tuple_bl, isa_tuple_int, isa_tuple_str, isa_tuple_tup, isa_tuple_lst, isa_tuple_ro, isa_list_non, isa_list_bl, isa_list_int, isa_list_str, isa_list_tup, isa_list_lst, isa_list_ro, isa_str_non, isa_str_bl, isa_str_int, isa_str_str, isa_str_tup, isa_str_lst, isa_str_ro, isl_non, isl_bl, isl_int, isl_str, isl_tup, isl_lst, isl_ro, Nat.zero_add, Nat.reduceAdd, Nat.reduceSub, Nat.reduceLeDiff, Nat.reduceLT, Nat.reducePow, Int.reduceNeg, decide_true, decide_false, Bool.not_true, Bool.not_false, Int.reduceToNat, Int.reducePow, Int.reduceAdd, Int.reduceSub, Int.reduceMul, nco, eq_self, Int.reduceEq, Int.reduceLT, Int.reduceLE, w_run1, w_run2, w_run3, fl_tup, fl_lst, ix_tup0, ix_tup1, Bool.false_eq_true, reduceCtorEq, ↓w_comp0, ↓w_comp1, wipe0, wipe1, fall_lst, bools0, bools1, Option.map_some, List.all_cons, List.all_nil, id, Bool.and_true, Bool.and_false, Bool.true_and, Bool.false_and, ↓t_rt, ↓t_nx, t_rt, t_nx]
  refine wc_i ⟨by decide, by decide, by decide⟩ ?_
  generalize hz : cs[i.toNat] = z
  refine wb_i (fun hb => ?_) (fun hb => ?_)
  · simp only [↓w_ok, ↓w_exc, ↓w_bad, ↓w_bnd, ↓w_ret, ↓w_badm, ↓w_lift, ↓o_some, ↓o_none, ↓o_map, ↓o_ite, ↓c_true, ↓b_true, ↓b_false, ↓f_nx, ↓f_rt, ↓f_bk, ↓f_ct, ↓f_ex, ↓w_var, ↓w_c, ↓w_c2, ↓w_c1, ↓w_cN, ↓w_nil, ↓w_cons, ↓w_tup, ↓w_lst, ↓w_frz, ↓w_own, ↓w_call, ↓w_no, ↓w_part, ↓w_sl, ↓w_tB, ↓w_tAnd, ↓w_tOr, ↓w_tNot, ↓w_tYes, ↓w_vAnd, ↓w_vOr, ↓w_vNot, ↓w_if, ↓w_pNil, ↓w_pCons, ↓w_dict, ↓w_lc, ↓w_iSeq, ↓w_iRng, ↓w_next, ↓w_seq, ↓w_do, ↓w_sret, ↓w_sretN, ↓w_drop, ↓w_sif, ↓w_brk, ↓w_cnt, ↓w_asg, ↓w_nm, ↓w_gnil, ↓w_gcons, ↓w_gseq, ↓w_gsub, ↓w_par, ↓w_for, ↓w_dput, ↓w_app, ↓l_nx, ↓l_ct, ↓l_bk, ↓l_rt, ↓l_ex, ↓w_loop0, ↓w_run1, ↓w_run2, ↓w_run3, ↓e_rt, ↓e_nx, ↓e_ex, e_rt, e_nx, e_ex, l_nx, l_ct, l_bk, l_rt, l_ex, k_add, k_sub, k_mul, k_div, k_mod, k_pow, k_neg, k_cmp, k_eqi, k_nei, k_divmod, k_gcd, k_abs, i_tup, i_lst, i_ro, lo_lst, st_lst, st_ro, st_tup, o_some, o_none, o_map, o_ite, c_true, b_true, b_false, f_nx, f_rt, f_bk, f_ct, f_ex, boolD_bl, intD_int, two_two, w_ok, bx_turn, bx_cells, bx_put, bx_lenc, bx_ix, bx_sub, List.getElem?_cons_zero, List.getElem?_cons_succ, List.getElem?_nil, List.set_cons_zero, List.set_cons_succ, List.map_cons, List.map_nil, List.replicate_succ, List.replicate_zero, List.cons_append, List.nil_append, List.length_cons, List.length_nil, szl, isa_int_non, isa_int_bl, isa_int_int, isa_int_str, isa_int_tup, isa_int_lst, isa_int_ro, isa_bool_non, isa_bool_bl, isa_bool_int, isa_bool_str, isa_bool_tup, isa_bool_lst, isa_bool_ro, isa_tuple_non, isa_tuple_bl, isa_tuple_int, isa_tuple_str, isa_tuple_tup, isa_tuple_lst, isa_tuple_ro, isa_list_non, isa_list_bl, isa_list_int, isa_list_str, isa_list_tup, isa_list_lst, isa_list_ro, isa_str_non, isa_str_bl, isa_str_int, isa_str_str, isa_str_tup, isa_str_lst, isa_str_ro, isl_non, isl_bl, isl_int, isl_str, isl_tup, isl_lst, isl_ro, Nat.zero_add, Nat.reduceAdd, Nat.reduceSub, Nat.reduceLeDiff, Nat.reduceLT, Nat.reducePow, Int.reduceNeg, decide_true, decide_false, Bool.not_true, Bool.not_false, Int.reduceToNat, Int.reducePow, Int.reduceAdd, Int.reduceSub, Int.reduceMul, nco, eq_self, Int.reduceEq, Int.reduceLT, Int.reduceLE, w_run1, w_run2, w_run3, fl_tup, fl_lst, ix_tup0, ix_tup1, Bool.false_eq_true, reduceCtorEq, ↓w_comp0, ↓w_comp1, wipe0, wipe1, fall_lst, bools0, bools1, Option.map_some, List.all_cons, List.all_nil, id, Bool.and_true, Bool.and_false, Bool.true_and, Bool.false_and, ↓t_rt, ↓t_nx, t_rt, t_nx]
    refine wc_i (cp_of hs (lt250 (by omega))) ?_
    simp only [↓w_ok, ↓w_exc, ↓w_bad, ↓w_bnd, ↓w_ret, ↓w_badm, ↓w_lift, ↓o_some, ↓o_none, ↓o_map, ↓o_ite, ↓c_true, ↓b_true, ↓b_false, ↓f_nx, ↓f_rt, ↓f_bk, ↓f_ct, ↓f_ex, ↓w_var, ↓w_c, ↓w_c2, ↓w_c1, ↓w_cN, ↓w_nil, ↓w_cons, ↓w_tup, ↓w_lst, ↓w_frz, ↓w_own, ↓w_call, ↓w_no, ↓w_part, ↓w_sl, ↓w_tB, ↓w_tAnd, ↓w_tOr, ↓w_tNot, ↓w_tYes, ↓w_vAnd, ↓w_vOr, ↓w_vNot, ↓w_if, ↓w_pNil, ↓w_pCons, ↓w_dict, ↓w_lc, ↓w_iSeq, ↓w_iRng, ↓w_next, ↓w_seq, ↓w_do, ↓w_sret, ↓w_sretN, ↓w_drop, ↓w_sif, ↓w_brk, ↓w_cnt, ↓w_asg, ↓w_nm, ↓w_gnil, ↓w_gcons, ↓w_gseq, ↓w_gsub, ↓w_par, ↓w_for, ↓w_dput, ↓w_app, ↓l_nx, ↓l_ct, ↓l_bk, ↓l_rt, ↓l_ex, ↓w_loop0, ↓w_run1, ↓w_run2, ↓w_run3, ↓e_rt, ↓e_nx, ↓e_ex, e_rt, e_nx, e_ex, l_nx, l_ct, l_bk, l_rt, l_ex, k_add, k_sub, k_mul, k_div, k_mod, k_pow, k_neg, k_cmp, k_eqi, k_nei, k_divmod, k_gcd, k_abs, i_tup, i_lst, i_ro, lo_lst, st_lst, st_ro, st_tup, o_some, o_none, o_map, o_ite, c_true, b_true, b_false, f_nx, f_rt, f_bk, f_ct, f_ex, boolD_bl, intD_int, two_two, w_ok, bx_turn, bx_cells, bx_put, bx_lenc, bx_ix, bx_sub, List.getElem?_cons_zero, List.getElem?_cons_succ, List.getElem?_nil, List.set_cons_zero, List.set_cons_succ, List.map_cons, List.map_nil, List.replicate_succ, List.replicate_zero, List.cons_append, List.nil_append, List.length_cons, List.length_nil, szl, isa_int_non, isa_int_bl, isa_int_int, isa_int_str, isa_int_tup, isa_int_lst, isa_int_ro, isa_bool_non, isa_bool_bl, isa_bool_int, isa_bool_str, isa_bool_tup, isa_bool_lst, isa_bool_ro, isa_tuple_non, isa_tuple_bl, isa_tuple_int, isa_tuple_str, isa_tuple_tup, isa_tuple_lst, isa_tuple_ro, isa_list_non, isa_list_bl, isa_list_int, isa_list_str, isa_list_tup, isa_list_lst, isa_list_ro, isa_str_non, isa_str_bl, isa_str_int, isa_str_str, isa_str_tup, isa_str_lst, isa_str_ro, isl_non, isl_bl, isl_int, isl_str, isl_tup, isl_lst, isl_ro, Nat.zero_add, Nat.reduceAdd, Nat.reduceSub, Nat.reduceLeDiff, Nat.reduceLT, Nat.reducePow, Int.reduceNeg, decide_true, decide_false, Bool.not_true, Bool.not_false, Int.reduceToNat, Int.reducePow, Int.reduceAdd, Int.reduceSub, Int.reduceMul, nco, eq_self, Int.reduceEq, Int.reduceLT, Int.reduceLE, w_run1, w_run2, w_run3, fl_tup, fl_lst, ix_tup0, ix_tup1, Bool.false_eq_true, reduceCtorEq, ↓w_comp0, ↓w_comp1, wipe0, wipe1, fall_lst, bools0, bools1, Option.map_some, List.all_cons, List.all_nil, id, Bool.and_true, Bool.and_false, Bool.true_and, Bool.false_and, ↓t_rt, ↓t_nx, t_rt, t_nx]
    rw [hix]
    simp only [↓w_ok, ↓w_exc, ↓w_bad, ↓w_bnd, ↓w_ret, ↓w_badm, ↓w_lift, ↓o_some, ↓o_none, ↓o_map, ↓o_ite, ↓c_true, ↓b_true, ↓b_false, ↓f_nx, ↓f_rt, ↓f_bk, ↓f_ct, ↓f_ex, ↓w_var, ↓w_c, ↓w_c2, ↓w_c1, ↓w_cN, ↓w_nil, ↓w_cons, ↓w_tup, ↓w_lst, ↓w_frz, ↓w_own, ↓w_call, ↓w_no, ↓w_part, ↓w_sl, ↓w_tB, ↓w_tAnd, ↓w_tOr, ↓w_tNot, ↓w_tYes, ↓w_vAnd, ↓w_vOr, ↓w_vNot, ↓w_if, ↓w_pNil, ↓w_pCons, ↓w_dict, ↓w_lc, ↓w_iSeq, ↓w_iRng, ↓w_next, ↓w_seq, ↓w_do, ↓w_sret, ↓w_sretN, ↓w_drop, ↓w_sif, ↓w_brk, ↓w_cnt, ↓w_asg, ↓w_nm, ↓w_gnil, ↓w_gcons, ↓w_gseq, ↓w_gsub, ↓w_par, ↓w_for, ↓w_dput, ↓w_app, ↓l_nx, ↓l_ct, ↓l_bk, ↓l_rt, ↓l_ex, ↓w_loop0, ↓w_run1, ↓w_run2, ↓w_run3, ↓e_rt, ↓e_nx, ↓e_ex, e_rt, e_nx, e_ex, l_nx, l_ct, l_bk, l_rt, l_ex, k_add, k_sub, k_mul, k_div, k_mod, k_pow, k_neg, k_cmp, k_eqi, k_nei, k_divmod, k_gcd, k_abs, i_tup, i_lst, i_ro, lo_lst, st_lst, st_ro, st_tup, o_some, o_none, o_map, o_ite, c_true, b_true, b_false, f_nx, f_rt, f_bk, f_ct, f_ex, boolD_bl, intD_int, two_two, w_ok, bx_turn, bx_cells, bx_put, bx_lenc, bx_ix, bx_sub, List.getElem?_cons_zero, List.getElem?_cons_succ, List.getElem?_nil, List.set_cons_zero, List.set_cons_succ, List.map_cons, List.map_nil, List.replicate_succ, List.replicate_zero, List.cons_append, List.nil_append, List.length_cons, List.length_nil, szl, isa_int_non, isa_int_bl, isa_int_int, isa_int_str, isa_int_tup, isa_int_lst, isa_int_ro, isa_bool_non, isa_bool_bl, isa_bool_int, isa_bool_str, isa_bool_tup, isa_bool_lst, isa_bool_ro, isa_tuple_non, isa_tuple_bl, isa_tuple_int, isa_tuple_str, isa_tuple_tup, isa_tuple_lst, isa_tuple_ro, isa_list_non, isa_list_bl, isa_list_int, isa_list_str, isa_list_tup, isa_list_lst, isa_list_ro, isa_str_non, isa_str_bl, isa_str_int, isa_str_str, isa_str_tup, isa_str_lst, isa_str_ro, isl_non, isl_bl, isl_int, isl_str, isl_tup, isl_lst, isl_ro, Nat.zero_add, Nat.reduceAdd, Nat.reduceSub, Nat.reduceLeDiff, Nat.reduceLT, Nat.reducePow, Int.reduceNeg, decide_true, decide_false, Bool.not_true, Bool.not_false, Int.reduceToNat, Int.reducePow, Int.reduceAdd, Int.reduceSub, Int.reduceMul, nco, eq_self, Int.reduceEq, Int.reduceLT, Int.reduceLE, w_run1, w_run2, w_run3, fl_tup, fl_lst, ix_tup0, ix_tup1, Bool.false_eq_true, reduceCtorEq, ↓w_comp0, ↓w_comp1, wipe0, wipe1, fall_lst, bools0, bools1, Option.map_some, List.all_cons, List.all_nil, id, Bool.and_true, Bool.and_false, Bool.true_and, Bool.false_and, ↓t_rt, ↓t_nx, t_rt, t_nx]
    have hq0 := Int.emod_nonneg z (show sz ≠ 0 by omega)
    have hq1 := Int.emod_lt_of_pos z hs
    exact q _ _ _ (fun h => hne (by simpa using h)) (by simpa using hle) (by omega) (by omega) hq0 hq1
  · simp only [↓w_ok, ↓w_exc, ↓w_bad, ↓w_bnd, ↓w_ret, ↓w_badm, ↓w_lift, ↓o_some, ↓o_none, ↓o_map, ↓o_ite, ↓c_true, ↓b_true, ↓b_false, ↓f_nx, ↓f_rt, ↓f_bk, ↓f_ct, ↓f_ex, ↓w_var, ↓w_c, ↓w_c2, ↓w_c1, ↓w_cN, ↓w_nil, ↓w_cons, ↓w_tup, ↓w_lst, ↓w_frz, ↓w_own, ↓w_call, ↓w_no, ↓w_part, ↓w_sl, ↓w_tB, ↓w_tAnd, ↓w_tOr, ↓w_tNot, ↓w_tYes, ↓w_vAnd, ↓w_vOr, ↓w_vNot, ↓w_if, ↓w_pNil, ↓w_pCons, ↓w_dict, ↓w_lc, ↓w_iSeq, ↓w_iRng, ↓w_next, ↓w_seq, ↓w_do, ↓w_sret, ↓w_sretN, ↓w_drop, ↓w_sif, ↓w_brk, ↓w_cnt, ↓w_asg, ↓w_nm, ↓w_gnil, ↓w_gcons, ↓w_gseq, ↓w_gsub, ↓w_par, ↓w_for, ↓w_dput, ↓w_app, ↓l_nx, ↓l_ct, ↓l_bk, ↓l_rt, ↓l_ex, ↓w_loop0, ↓w_run1, ↓w_run2, ↓w_run3, ↓e_rt, ↓e_nx, ↓e_ex, e_rt, e_nx, e_ex, l_nx, l_ct, l_bk, l_rt, l_ex, k_add, k_sub, k_mul, k_div, k_mod, k_pow, k_neg, k_cmp, k_eqi, k_nei, k_divmod, k_gcd, k_abs, i_tup, i_lst, i_ro, lo_lst, st_lst, st_ro, st_tup, o_some, o_none, o_map, o_ite, c_true, b_true, b_false, f_nx, f_rt, f_bk, f_ct, f_ex, boolD_bl, intD_int, two_two, w_ok, bx_turn, bx_cells, bx_put, bx_lenc, bx_ix, bx_sub, List.getElem?_cons_zero, List.getElem?_cons_succ, List.getElem?_nil, List.set_cons_zero, List.set_cons_succ, List.map_cons, List.map_nil, List.replicate_succ, List.replicate_zero, List.cons_append, List.nil_append, List.length_cons, List.length_nil, szl, isa_int_non, isa_int_bl, isa_int_int, isa_int_str, isa_int_tup, isa_int_lst, isa_int_ro, isa_bool_non, isa_bool_bl, isa_bool_int, isa_bool_str, isa_bool_tup, isa_bool_lst, isa_bool_ro, isa_tuple_non, isa_tuple_bl, isa_tuple_int, isa_tuple_str, isa_tuple_tup, isa_tuple_lst, isa_tuple_ro, isa_list_non, isa_list_bl, isa_list_int, isa_list_str, isa_list_tup, isa_list_lst, isa_list_ro, isa_str_non, isa_str_bl, isa_str_int, isa_str_str, isa_str_tup, isa_str_lst, isa_str_ro, isl_non, isl_bl, isl_int, isl_str, isl_tup, isl_lst, isl_ro, Nat.zero_add, Nat.reduceAdd, Nat.reduceSub, Nat.reduceLeDiff, Nat.reduceLT, Nat.reducePow, Int.reduceNeg, decide_true, decide_false, Bool.not_true, Bool.not_false, Int.reduceToNat, Int.reducePow, Int.reduceAdd, Int.reduceSub, Int.reduceMul, nco, eq_self, Int.reduceEq, Int.reduceLT, Int.reduceLE, w_run1, w_run2, w_run3, fl_tup, fl_lst, ix_tup0, ix_tup1, Bool.false_eq_true, reduceCtorEq, ↓w_comp0, ↓w_comp1, wipe0, wipe1, fall_lst, bools0, bools1, Option.map_some, List.all_cons, List.all_nil, id, Bool.and_true, Bool.and_false, Bool.true_and, Bool.false_and, ↓t_rt, ↓t_nx, t_rt, t_nx]
    refine wc_i (cd_of (by decide) (lt250 (by decide))) ?_
    simp only [↓w_ok, ↓w_exc, ↓w_bad, ↓w_bnd, ↓w_ret, ↓w_badm, ↓w_lift, ↓o_some, ↓o_none, ↓o_map, ↓o_ite, ↓c_true, ↓b_true, ↓b_false, ↓f_nx, ↓f_rt, ↓f_bk, ↓f_ct, ↓f_ex, ↓w_var, ↓w_c, ↓w_c2, ↓w_c1, ↓w_cN, ↓w_nil, ↓w_cons, ↓w_tup, ↓w_lst, ↓w_frz, ↓w_own, ↓w_call, ↓w_no, ↓w_part, ↓w_sl, ↓w_tB, ↓w_tAnd, ↓w_tOr, ↓w_tNot, ↓w_tYes, ↓w_vAnd, ↓w_vOr, ↓w_vNot, ↓w_if, ↓w_pNil, ↓w_pCons, ↓w_dict, ↓w_lc, ↓w_iSeq, ↓w_iRng, ↓w_next, ↓w_seq, ↓w_do, ↓w_sret, ↓w_sretN, ↓w_drop, ↓w_sif, ↓w_brk, ↓w_cnt, ↓w_asg, ↓w_nm, ↓w_gnil, ↓w_gcons, ↓w_gseq, ↓w_gsub, ↓w_par, ↓w_for, ↓w_dput, ↓w_app, ↓l_nx, ↓l_ct, ↓l_bk, ↓l_rt, ↓l_ex, ↓w_loop0, ↓w_run1, ↓w_run2, ↓w_run3, ↓e_rt, ↓e_nx, ↓e_ex, e_rt, e_nx, e_ex, l_nx, l_ct, l_bk, l_rt, l_ex, k_add, k_sub, k_mul, k_div, k_mod, k_pow, k_neg, k_cmp, k_eqi, k_nei, k_divmod, k_gcd, k_abs, i_tup, i_lst, i_ro, lo_lst, st_lst, st_ro, st_tup, o_some, o_none, o_map, o_ite, c_true, b_true, b_false, f_nx, f_rt, f_bk, f_ct, f_ex, boolD_bl, intD_int, two_two, w_ok, bx_turn, bx_cells, bx_put, bx_lenc, bx_ix, bx_sub, List.getElem?_cons_zero, List.getElem?_cons_succ, List.getElem?_nil, List.set_cons_zero, List.set_cons_succ, List.map_cons, List.map_nil, List.replicate_succ, List.replicate_zero, List.cons_append, List.nil_append, List.length_cons, List.length_nil, szl, isa_int_non, isa_int_bl, isa_int_int, isa_int_str, isa_int_tup, isa_int_lst, isa_int_ro, isa_bool_non, isa_bool_bl, isa_bool_int, isa_bool_str, isa_bool_tup, isa_bool_lst, isa_bool_ro, isa_tuple_non, isa_tuple_bl, isa_tuple_int, isa_tuple_str, isa_tuple_tup, isa_tuple_lst, isa_tuple_ro, isa_list_non, isa_list_bl, isa_list_int, isa_list_str, isa_list_tup, isa_list_lst, isa_list_ro, isa_str_non, isa_str_bl, isa_str_int, isa_str_str, isa_str_tup, isa_str_lst, isa_str_ro, isl_non, isl_bl, isl_int, isl_str, isl_tup, isl_lst, isl_ro, Nat.zero_add, Nat.reduceAdd, Nat.reduceSub, Nat.reduceLeDiff, Nat.reduceLT, Nat.reducePow, Int.reduceNeg, decide_true, decide_false, Bool.not_true, Bool.not_false, Int.reduceToNat, Int.reducePow, Int.reduceAdd, Int.reduceSub, Int.reduceMul, nco, eq_self, Int.reduceEq, Int.reduceLT, Int.reduceLE, w_run1, w_run2, w_run3, fl_tup, fl_lst, ix_tup0, ix_tup1, Bool.false_eq_true, reduceCtorEq, ↓w_comp0, ↓w_comp1, wipe0, wipe1, fall_lst, bools0, bools1, Option.map_some, List.all_cons, List.all_nil, id, Bool.and_true, Bool.and_false, Bool.true_and, Bool.false_and, ↓t_rt, ↓t_nx, t_rt, t_nx]
    have m1 := md z (M := 2147483629) (by decide)
    have m2 := md (z / 2147483629) (M := 40009) (by decide)
    generalize z % 2147483629 = z1 at *
    generalize z / 2147483629 % 40009 = z2 at *
    have ht : 0 ≤ t + 1 ∧ t + 1 ≤ 1000001 := by omega
    generalize ht1 : t + 1 = t1 at *
    have m3 : 0 ≤ t1 * t1 ∧ t1 * t1 ≤ 1000002000001 := ⟨Int.mul_nonneg ht.1 ht.1, Int.mul_le_mul ht.2 ht.2 ht.1 (by decide)⟩
    refine wc_i (cm_of (lt250 (by omega)) (lt250 (by decide))) ?_
    simp only [↓w_ok, ↓w_exc, ↓w_bad, ↓w_bnd, ↓w_ret, ↓w_badm, ↓w_lift, ↓o_some, ↓o_none, ↓o_map, ↓o_ite, ↓c_true, ↓b_true, ↓b_false, ↓f_nx, ↓f_rt, ↓f_bk, ↓f_ct, ↓f_ex, ↓w_var, ↓w_c, ↓w_c2, ↓w_c1, ↓w_cN, ↓w_nil, ↓w_cons, ↓w_tup, ↓w_lst, ↓w_frz, ↓w_own, ↓w_call, ↓w_no, ↓w_part, ↓w_sl, ↓w_tB, ↓w_tAnd, ↓w_tOr, ↓w_tNot, ↓w_tYes, ↓w_vAnd, ↓w_vOr, ↓w_vNot, ↓w_if, ↓w_pNil, ↓w_pCons, ↓w_dict, ↓w_lc, ↓w_iSeq, ↓w_iRng, ↓w_next, ↓w_seq, ↓w_do, ↓w_sret, ↓w_sretN, ↓w_drop, ↓w_sif, ↓w_brk, ↓w_cnt, ↓w_asg, ↓w_nm, ↓w_gnil, ↓w_gcons, ↓w_gseq, ↓w_gsub, ↓w_par, ↓w_for, ↓w_dput, ↓w_app, ↓l_nx, ↓l_ct, ↓l_bk, ↓l_rt, ↓l_ex, ↓w_loop0, ↓w_run1, ↓w_run2, ↓w_run3, ↓e_rt, ↓e_nx, ↓e_ex, e_rt, e_nx, e_ex, l_nx, l_ct, l_bk, l_rt, l_ex, k_add, k_sub, k_mul, k_div, k_mod, k_pow, k_neg, k_cmp, k_eqi, k_nei, k_divmod, k_gcd, k_abs, i_tup, i_lst, i_ro, lo_lst, st_lst, st_ro, st_tup, o_some, o_none, o_map, o_ite, c_true, b_true, b_false, f_nx, f_rt, f_bk, f_ct, f_ex, boolD_bl, intD_int, two_two, w_ok, bx_turn, bx_cells, bx_put, bx_lenc, bx_ix, bx_sub, List.getElem?_cons_zero, List.getElem?_cons_succ, List.getElem?_nil, List.set_cons_zero, List.set_cons_succ, List.map_cons, List.map_nil, List.replicate_succ, List.replicate_zero, List.cons_append, List.nil_append, List.length_cons, List.length_nil, szl, isa_int_non, isa_int_bl, isa_int_int, isa_int_str, isa_int_tup, isa_int_lst, isa_int_ro, isa_bool_non, isa_bool_bl, isa_bool_int, isa_bool_str, isa_bool_tup, isa_bool_lst, isa_bool_ro, isa_tuple_non, isa_tuple_bl, isa_tuple_int, isa_tuple_str, isa_tuple_tup, isa_tuple_lst, isa_tuple_ro, isa_list_non, isa_list_bl, isa_list_int, isa_list_str, isa_list_tup, isa_list_lst, isa_list_ro, isa_str_non, isa_str_bl, isa_str_int, isa_str_str, isa_str_tup, isa_str_lst, isa_str_ro, isl_non, isl_bl, isl_int, isl_str, isl_tup, isl_lst, isl_ro, Nat.zero_add, Nat.reduceAdd, Nat.reduceSub, Nat.reduceLeDiff, Nat.reduceLT, Nat.reducePow, Int.reduceNeg, decide_true, decide_false, Bool.not_true, Bool.not_false, Int.reduceToNat, Int.reducePow, Int.reduceAdd, Int.reduceSub, Int.reduceMul, nco, eq_self, Int.reduceEq, Int.reduceLT, Int.reduceLE, w_run1, w_run2, w_run3, fl_tup, fl_lst, ix_tup0, ix_tup1, Bool.false_eq_true, reduceCtorEq, ↓w_comp0, ↓w_comp1, wipe0, wipe1, fall_lst, bools0, bools1, Option.map_some, List.all_cons, List.all_nil, id, Bool.and_true, Bool.and_false, Bool.true_and, Bool.false_and, ↓t_rt, ↓t_nx, t_rt, t_nx]
    refine wc_i (cm_of (lt250 (by omega)) (lt250 (by omega))) ?_
    simp only [↓w_ok, ↓w_exc, ↓w_bad, ↓w_bnd, ↓w_ret, ↓w_badm, ↓w_lift, ↓o_some, ↓o_none, ↓o_map, ↓o_ite, ↓c_true, ↓b_true, ↓b_false, ↓f_nx, ↓f_rt, ↓f_bk, ↓f_ct, ↓f_ex, ↓w_var, ↓w_c, ↓w_c2, ↓w_c1, ↓w_cN, ↓w_nil, ↓w_cons, ↓w_tup, ↓w_lst, ↓w_frz, ↓w_own, ↓w_call, ↓w_no, ↓w_part, ↓w_sl, ↓w_tB, ↓w_tAnd, ↓w_tOr, ↓w_tNot, ↓w_tYes, ↓w_vAnd, ↓w_vOr, ↓w_vNot, ↓w_if, ↓w_pNil, ↓w_pCons, ↓w_dict, ↓w_lc, ↓w_iSeq, ↓w_iRng, ↓w_next, ↓w_seq, ↓w_do, ↓w_sret, ↓w_sretN, ↓w_drop, ↓w_sif, ↓w_brk, ↓w_cnt, ↓w_asg, ↓w_nm, ↓w_gnil, ↓w_gcons, ↓w_gseq, ↓w_gsub, ↓w_par, ↓w_for, ↓w_dput, ↓w_app, ↓l_nx, ↓l_ct, ↓l_bk, ↓l_rt, ↓l_ex, ↓w_loop0, ↓w_run1, ↓w_run2, ↓w_run3, ↓e_rt, ↓e_nx, ↓e_ex, e_rt, e_nx, e_ex, l_nx, l_ct, l_bk, l_rt, l_ex, k_add, k_sub, k_mul, k_div, k_mod, k_pow, k_neg, k_cmp, k_eqi, k_nei, k_divmod, k_gcd, k_abs, i_tup, i_lst, i_ro, lo_lst, st_lst, st_ro, st_tup, o_some, o_none, o_map, o_ite, c_true, b_true, b_false, f_nx, f_rt, f_bk, f_ct, f_ex, boolD_bl, intD_int, two_two, w_ok, bx_turn, bx_cells, bx_put, bx_lenc, bx_ix, bx_sub, List.getElem?_cons_zero, List.getElem?_cons_succ, List.getElem?_nil, List.set_cons_zero, List.set_cons_succ, List.map_cons, List.map_nil, List.replicate_succ, List.replicate_zero, List.cons_append, List.nil_append, List.length_cons, List.length_nil, szl, isa_int_non, isa_int_bl, isa_int_int, isa_int_str, isa_int_tup, isa_int_lst, isa_int_ro, isa_bool_non, isa_bool_bl, isa_bool_int, isa_bool_str, isa_bool_tup, isa_bool_lst, isa_bool_ro, isa_tuple_non, isa_tuple_bl, isa_tuple_int, isa_tuple_str, isa_tuple_tup, isa_tuple_lst, isa_tuple_ro, isa_list_non, isa_list_bl, isa_list_int, isa_list_str, isa_list_tup, isa_list_lst, isa_list_ro, isa_str_non, isa_str_bl, isa_str_int, isa_str_str, isa_str_tup, isa_str_lst, isa_str_ro, isl_non, isl_bl, isl_int, isl_str, isl_tup, isl_lst, isl_ro, Nat.zero_add, Nat.reduceAdd, Nat.reduceSub, Nat.reduceLeDiff, Nat.reduceLT, Nat.reducePow, Int.reduceNeg, decide_true, decide_false, Bool.not_true, Bool.not_false, Int.reduceToNat, Int.reducePow, Int.reduceAdd, Int.reduceSub, Int.reduceMul, nco, eq_self, Int.reduceEq, Int.reduceLT, Int.reduceLE, w_run1, w_run2, w_run3, fl_tup, fl_lst, ix_tup0, ix_tup1, Bool.false_eq_true, reduceCtorEq, ↓w_comp0, ↓w_comp1, wipe0, wipe1, fall_lst, bools0, bools1, Option.map_some, List.all_cons, List.all_nil, id, Bool.and_true, Bool.and_false, Bool.true_and, Bool.false_and, ↓t_rt, ↓t_nx, t_rt, t_nx]
    generalize t1 * t1 = t2 at *
    refine wc_i (cm_of (lt250 (by omega)) (lt250 (by decide))) ?_
    simp only [↓w_ok, ↓w_exc, ↓w_bad, ↓w_bnd, ↓w_ret, ↓w_badm, ↓w_lift, ↓o_some, ↓o_none, ↓o_map, ↓o_ite, ↓c_true, ↓b_true, ↓b_false, ↓f_nx, ↓f_rt, ↓f_bk, ↓f_ct, ↓f_ex, ↓w_var, ↓w_c, ↓w_c2, ↓w_c1, ↓w_cN, ↓w_nil, ↓w_cons, ↓w_tup, ↓w_lst, ↓w_frz, ↓w_own, ↓w_call, ↓w_no, ↓w_part, ↓w_sl, ↓w_tB, ↓w_tAnd, ↓w_tOr, ↓w_tNot, ↓w_tYes, ↓w_vAnd, ↓w_vOr, ↓w_vNot, ↓w_if, ↓w_pNil, ↓w_pCons, ↓w_dict, ↓w_lc, ↓w_iSeq, ↓w_iRng, ↓w_next, ↓w_seq, ↓w_do, ↓w_sret, ↓w_sretN, ↓w_drop, ↓w_sif, ↓w_brk, ↓w_cnt, ↓w_asg, ↓w_nm, ↓w_gnil, ↓w_gcons, ↓w_gseq, ↓w_gsub, ↓w_par, ↓w_for, ↓w_dput, ↓w_app, ↓l_nx, ↓l_ct, ↓l_bk, ↓l_rt, ↓l_ex, ↓w_loop0, ↓w_run1, ↓w_run2, ↓w_run3, ↓e_rt, ↓e_nx, ↓e_ex, e_rt, e_nx, e_ex, l_nx, l_ct, l_bk, l_rt, l_ex, k_add, k_sub, k_mul, k_div, k_mod, k_pow, k_neg, k_cmp, k_eqi, k_nei, k_divmod, k_gcd, k_abs, i_tup, i_lst, i_ro, lo_lst, st_lst, st_ro, st_tup, o_some, o_none, o_map, o_ite, c_true, b_true, b_false, f_nx, f_rt, f_bk, f_ct, f_ex, boolD_bl, intD_int, two_two, w_ok, bx_turn, bx_cells, bx_put, bx_lenc, bx_ix, bx_sub, List.getElem?_cons_zero, List.getElem?_cons_succ, List.getElem?_nil, List.set_cons_zero, List.set_cons_succ, List.map_cons, List.map_nil, List.replicate_succ, List.replicate_zero, List.cons_append, List.nil_append, List.length_cons, List.length_nil, szl, isa_int_non, isa_int_bl, isa_int_int, isa_int_str, isa_int_tup, isa_int_lst, isa_int_ro, isa_bool_non, isa_bool_bl, isa_bool_int, isa_bool_str, isa_bool_tup, isa_bool_lst, isa_bool_ro, isa_tuple_non, isa_tuple_bl, isa_tuple_int, isa_tuple_str, isa_tuple_tup, isa_tuple_lst, isa_tuple_ro, isa_list_non, isa_list_bl, isa_list_int, isa_list_str, isa_list_tup, isa_list_lst, isa_list_ro, isa_str_non, isa_str_bl, isa_str_int, isa_str_str, isa_str_tup, isa_str_lst, isa_str_ro, isl_non, isl_bl, isl_int, isl_str, isl_tup, isl_lst, isl_ro, Nat.zero_add, Nat.reduceAdd, Nat.reduceSub, Nat.reduceLeDiff, Nat.reduceLT, Nat.reducePow, Int.reduceNeg, decide_true, decide_false, Bool.not_true, Bool.not_false, Int.reduceToNat, Int.reducePow, Int.reduceAdd, Int.reduceSub, Int.reduceMul, nco, eq_self, Int.reduceEq, Int.reduceLT, Int.reduceLE, w_run1, w_run2, w_run3, fl_tup, fl_lst, ix_tup0, ix_tup1, Bool.false_eq_true, reduceCtorEq, ↓w_comp0, ↓w_comp1, wipe0, wipe1, fall_lst, bools0, bools1, Option.map_some, List.all_cons, List.all_nil, id, Bool.and_true, Bool.and_false, Bool.true_and, Bool.false_and, ↓t_rt, ↓t_nx, t_rt, t_nx]
    refine wc_i (cm_of (lt250 (by omega)) (lt250 (by decide))) ?_
    simp only [↓w_ok, ↓w_exc, ↓w_bad, ↓w_bnd, ↓w_ret, ↓w_badm, ↓w_lift, ↓o_some, ↓o_none, ↓o_map, ↓o_ite, ↓c_true, ↓b_true, ↓b_false, ↓f_nx, ↓f_rt, ↓f_bk, ↓f_ct, ↓f_ex, ↓w_var, ↓w_c, ↓w_c2, ↓w_c1, ↓w_cN, ↓w_nil, ↓w_cons, ↓w_tup, ↓w_lst, ↓w_frz, ↓w_own, ↓w_call, ↓w_no, ↓w_part, ↓w_sl, ↓w_tB, ↓w_tAnd, ↓w_tOr, ↓w_tNot, ↓w_tYes, ↓w_vAnd, ↓w_vOr, ↓w_vNot, ↓w_if, ↓w_pNil, ↓w_pCons, ↓w_dict, ↓w_lc, ↓w_iSeq, ↓w_iRng, ↓w_next, ↓w_seq, ↓w_do, ↓w_sret, ↓w_sretN, ↓w_drop, ↓w_sif, ↓w_brk, ↓w_cnt, ↓w_asg, ↓w_nm, ↓w_gnil, ↓w_gcons, ↓w_gseq, ↓w_gsub, ↓w_par, ↓w_for, ↓w_dput, ↓w_app, ↓l_nx, ↓l_ct, ↓l_bk, ↓l_rt, ↓l_ex, ↓w_loop0, ↓w_run1, ↓w_run2, ↓w_run3, ↓e_rt, ↓e_nx, ↓e_ex, e_rt, e_nx, e_ex, l_nx, l_ct, l_bk, l_rt, l_ex, k_add, k_sub, k_mul, k_div, k_mod, k_pow, k_neg, k_cmp, k_eqi, k_nei, k_divmod, k_gcd, k_abs, i_tup, i_lst, i_ro, lo_lst, st_lst, st_ro, st_tup, o_some, o_none, o_map, o_ite, c_true, b_true, b_false, f_nx, f_rt, f_bk, f_ct, f_ex, boolD_bl, intD_int, two_two, w_ok, bx_turn, bx_cells, bx_put, bx_lenc, bx_ix, bx_sub, List.getElem?_cons_zero, List.getElem?_cons_succ, List.getElem?_nil, List.set_cons_zero, List.set_cons_succ, List.map_cons, List.map_nil, List.replicate_succ, List.replicate_zero, List.cons_append, List.nil_append, List.length_cons, List.length_nil, szl, isa_int_non, isa_int_bl, isa_int_int, isa_int_str, isa_int_tup, isa_int_lst, isa_int_ro, isa_bool_non, isa_bool_bl, isa_bool_int, isa_bool_str, isa_bool_tup, isa_bool_lst, isa_bool_ro, isa_tuple_non, isa_tuple_bl, isa_tuple_int, isa_tuple_str, isa_tuple_tup, isa_tuple_lst, isa_tuple_ro, isa_list_non, isa_list_bl, isa_list_int, isa_list_str, isa_list_tup, isa_list_lst, isa_list_ro, isa_str_non, isa_str_bl, isa_str_int, isa_str_str, isa_str_tup, isa_str_lst, isa_str_ro, isl_non, isl_bl, isl_int, isl_str, isl_tup, isl_lst, isl_ro, Nat.zero_add, Nat.reduceAdd, Nat.reduceSub, Nat.reduceLeDiff, Nat.reduceLT, Nat.reducePow, Int.reduceNeg, decide_true, decide_false, Bool.not_true, Bool.not_false, Int.reduceToNat, Int.reducePow, Int.reduceAdd, Int.reduceSub, Int.reduceMul, nco, eq_self, Int.reduceEq, Int.reduceLT, Int.reduceLE, w_run1, w_run2, w_run3, fl_tup, fl_lst, ix_tup0, ix_tup1, Bool.false_eq_true, reduceCtorEq, ↓w_comp0, ↓w_comp1, wipe0, wipe1, fall_lst, bools0, bools1, Option.map_some, List.all_cons, List.all_nil, id, Bool.and_true, Bool.and_false, Bool.true_and, Bool.false_and, ↓t_rt, ↓t_nx, t_rt, t_nx]
    have m4 := md ((z1 + z2 * 977 + t2 * 6007 + 29) * 48271) (M := 2147483647) (by decide)
    generalize (z1 + z2 * 977 + t2 * 6007 + 29) * 48271 % 2147483647 = x1 at *
    refine wc_i (cm_of (lt250 (by omega)) (lt250 (by omega))) ?_
    simp only [↓w_ok, ↓w_exc, ↓w_bad, ↓w_bnd, ↓w_ret, ↓w_badm, ↓w_lift, ↓o_some, ↓o_none, ↓o_map, ↓o_ite, ↓c_true, ↓b_true, ↓b_false, ↓f_nx, ↓f_rt, ↓f_bk, ↓f_ct, ↓f_ex, ↓w_var, ↓w_c, ↓w_c2, ↓w_c1, ↓w_cN, ↓w_nil, ↓w_cons, ↓w_tup, ↓w_lst, ↓w_frz, ↓w_own, ↓w_call, ↓w_no, ↓w_part, ↓w_sl, ↓w_tB, ↓w_tAnd, ↓w_tOr, ↓w_tNot, ↓w_tYes, ↓w_vAnd, ↓w_vOr, ↓w_vNot, ↓w_if, ↓w_pNil, ↓w_pCons, ↓w_dict, ↓w_lc, ↓w_iSeq, ↓w_iRng, ↓w_next, ↓w_seq, ↓w_do, ↓w_sret, ↓w_sretN, ↓w_drop, ↓w_sif, ↓w_brk, ↓w_cnt, ↓w_asg, ↓w_nm, ↓w_gnil, ↓w_gcons, ↓w_gseq, ↓w_gsub, ↓w_par, ↓w_for, ↓w_dput, ↓w_app, ↓l_nx, ↓l_ct, ↓l_bk, ↓l_rt, ↓l_ex, ↓w_loop0, ↓w_run1, ↓w_run2, ↓w_run3, ↓e_rt, ↓e_nx, ↓e_ex, e_rt, e_nx, e_ex, l_nx, l_ct, l_bk, l_rt, l_ex, k_add, k_sub, k_mul, k_div, k_mod, k_pow, k_neg, k_cmp, k_eqi, k_nei, k_divmod, k_gcd, k_abs, i_tup, i_lst, i_ro, lo_lst, st_lst, st_ro, st_tup, o_some, o_none, o_map, o_ite, c_true, b_true, b_false, f_nx, f_rt, f_bk, f_ct, f_ex, boolD_bl, intD_int, two_two, w_ok, bx_turn, bx_cells, bx_put, bx_lenc, bx_ix, bx_sub, List.getElem?_cons_zero, List.getElem?_cons_succ, List.getElem?_nil, List.set_cons_zero, List.set_cons_succ, List.map_cons, List.map_nil, List.replicate_succ, List.replicate_zero, List.cons_append, List.nil_append, List.length_cons, List.length_nil, szl, isa_int_non, isa_int_bl, isa_int_int, isa_int_str, isa_int_tup, isa_int_lst, isa_int_ro, isa_bool_non, isa_bool_bl, isa_bool_int, isa_bool_str, isa_bool_tup, isa_bool_lst, isa_bool_ro, isa_tuple_non, isa_tuple_bl, isa_tuple_int, isa_tuple_str, isa_tuple_tup, isa_tuple_lst, isa_tuple_ro, isa_list_non, isa_list_bl, isa_list_int, isa_list_str, isa_list_tup, isa_list_lst, isa_list_ro, isa_str_non, isa_str_bl, isa_str_int, isa_str_str, isa_str_tup, isa_str_lst, isa_str_ro, isl_non, isl_bl, isl_int, isl_str, isl_tup, isl_lst, isl_ro, Nat.zero_add, Nat.reduceAdd, Nat.reduceSub, Nat.reduceLeDiff, Nat.reduceLT, Nat.reducePow, Int.reduceNeg, decide_true, decide_false, Bool.not_true, Bool.not_false, Int.reduceToNat, Int.reducePow, Int.reduceAdd, Int.reduceSub, Int.reduceMul, nco, eq_self, Int.reduceEq, Int.reduceLT, Int.reduceLE, w_run1, w_run2, w_run3, fl_tup, fl_lst, ix_tup0, ix_tup1, Bool.false_eq_true, reduceCtorEq, ↓w_comp0, ↓w_comp1, wipe0, wipe1, fall_lst, bools0, bools1, Option.map_some, List.all_cons, List.all_nil, id, Bool.and_true, Bool.and_false, Bool.true_and, Bool.false_and, ↓t_rt, ↓t_nx, t_rt, t_nx]
    have m5 := md (x1 * x1) (M := 2147483579) (by decide)
    generalize x1 * x1 % 2147483579 = x2 at *
    refine wc_i (cm_of (lt250 (by omega)) (lt250 (by decide))) ?_
    simp only [↓w_ok, ↓w_exc, ↓w_bad, ↓w_bnd, ↓w_ret, ↓w_badm, ↓w_lift, ↓o_some, ↓o_none, ↓o_map, ↓o_ite, ↓c_true, ↓b_true, ↓b_false, ↓f_nx, ↓f_rt, ↓f_bk, ↓f_ct, ↓f_ex, ↓w_var, ↓w_c, ↓w_c2, ↓w_c1, ↓w_cN, ↓w_nil, ↓w_cons, ↓w_tup, ↓w_lst, ↓w_frz, ↓w_own, ↓w_call, ↓w_no, ↓w_part, ↓w_sl, ↓w_tB, ↓w_tAnd, ↓w_tOr, ↓w_tNot, ↓w_tYes, ↓w_vAnd, ↓w_vOr, ↓w_vNot, ↓w_if, ↓w_pNil, ↓w_pCons, ↓w_dict, ↓w_lc, ↓w_iSeq, ↓w_iRng, ↓w_next, ↓w_seq, ↓w_do, ↓w_sret, ↓w_sretN, ↓w_drop, ↓w_sif, ↓w_brk, ↓w_cnt, ↓w_asg, ↓w_nm, ↓w_gnil, ↓w_gcons, ↓w_gseq, ↓w_gsub, ↓w_par, ↓w_for, ↓w_dput, ↓w_app, ↓l_nx, ↓l_ct, ↓l_bk, ↓l_rt, ↓l_ex, ↓w_loop0, ↓w_run1, ↓w_run2, ↓w_run3, ↓e_rt, ↓e_nx, ↓e_ex, e_rt, e_nx, e_ex, l_nx, l_ct, l_bk, l_rt, l_ex, k_add, k_sub, k_mul, k_div, k_mod, k_pow, k_neg, k_cmp, k_eqi, k_nei, k_divmod, k_gcd, k_abs, i_tup, i_lst, i_ro, lo_lst, st_lst, st_ro, st_tup, o_some, o_none, o_map, o_ite, c_true, b_true, b_false, f_nx, f_rt, f_bk, f_ct, f_ex, boolD_bl, intD_int, two_two, w_ok, bx_turn, bx_cells, bx_put, bx_lenc, bx_ix, bx_sub, List.getElem?_cons_zero, List.getElem?_cons_succ, List.getElem?_nil, List.set_cons_zero, List.set_cons_succ, List.map_cons, List.map_nil, List.replicate_succ, List.replicate_zero, List.cons_append, List.nil_append, List.length_cons, List.length_nil, szl, isa_int_non, isa_int_bl, isa_int_int, isa_int_str, isa_int_tup, isa_int_lst, isa_int_ro, isa_bool_non, isa_bool_bl, isa_bool_int, isa_bool_str, isa_bool_tup, isa_bool_lst, isa_bool_ro, isa_tuple_non, isa_tuple_bl, isa_tuple_int, isa_tuple_str, isa_tuple_tup, isa_tuple_lst, isa_tuple_ro, isa_list_non, isa_list_bl, isa_list_int, isa_list_str, isa_list_tup, isa_list_lst, isa_list_ro, isa_str_non, isa_str_bl, isa_str_int, isa_str_str, isa_str_tup, isa_str_lst, isa_str_ro, isl_non, isl_bl, isl_int, isl_str, isl_tup, isl_lst, isl_ro, Nat.zero_add, Nat.reduceAdd, Nat.reduceSub, Nat.reduceLeDiff, Nat.reduceLT, Nat.reducePow, Int.reduceNeg, decide_true, decide_false, Bool.not_true, Bool.not_false, Int.reduceToNat, Int.reducePow, Int.reduceAdd, Int.reduceSub, Int.reduceMul, nco, eq_self, Int.reduceEq, Int.reduceLT, Int.reduceLE, w_run1, w_run2, w_run3, fl_tup, fl_lst, ix_tup0, ix_tup1, Bool.false_eq_true, reduceCtorEq, ↓w_comp0, ↓w_comp1, wipe0, wipe1, fall_lst, bools0, bools1, Option.map_some, List.all_cons, List.all_nil, id, Bool.and_true, Bool.and_false, Bool.true_and, Bool.false_and, ↓t_rt, ↓t_nx, t_rt, t_nx]
    refine wc_i (cm_of (lt250 (by omega)) (lt250 (by decide))) ?_
    simp only [↓w_ok, ↓w_exc, ↓w_bad, ↓w_bnd, ↓w_ret, ↓w_badm, ↓w_lift, ↓o_some, ↓o_none, ↓o_map, ↓o_ite, ↓c_true, ↓b_true, ↓b_false, ↓f_nx, ↓f_rt, ↓f_bk, ↓f_ct, ↓f_ex, ↓w_var, ↓w_c, ↓w_c2, ↓w_c1, ↓w_cN, ↓w_nil, ↓w_cons, ↓w_tup, ↓w_lst, ↓w_frz, ↓w_own, ↓w_call, ↓w_no, ↓w_part, ↓w_sl, ↓w_tB, ↓w_tAnd, ↓w_tOr, ↓w_tNot, ↓w_tYes, ↓w_vAnd, ↓w_vOr, ↓w_vNot, ↓w_if, ↓w_pNil, ↓w_pCons, ↓w_dict, ↓w_lc, ↓w_iSeq, ↓w_iRng, ↓w_next, ↓w_seq, ↓w_do, ↓w_sret, ↓w_sretN, ↓w_drop, ↓w_sif, ↓w_brk, ↓w_cnt, ↓w_asg, ↓w_nm, ↓w_gnil, ↓w_gcons, ↓w_gseq, ↓w_gsub, ↓w_par, ↓w_for, ↓w_dput, ↓w_app, ↓l_nx, ↓l_ct, ↓l_bk, ↓l_rt, ↓l_ex, ↓w_loop0, ↓w_run1, ↓w_run2, ↓w_run3, ↓e_rt, ↓e_nx, ↓e_ex, e_rt, e_nx, e_ex, l_nx, l_ct, l_bk, l_rt, l_ex, k_add, k_sub, k_mul, k_div, k_mod, k_pow, k_neg, k_cmp, k_eqi, k_nei, k_divmod, k_gcd, k_abs, i_tup, i_lst, i_ro, lo_lst, st_lst, st_ro, st_tup, o_some, o_none, o_map, o_ite, c_true, b_true, b_false, f_nx, f_rt, f_bk, f_ct, f_ex, boolD_bl, intD_int, two_two, w_ok, bx_turn, bx_cells, bx_put, bx_lenc, bx_ix, bx_sub, List.getElem?_cons_zero, List.getElem?_cons_succ, List.getElem?_nil, List.set_cons_zero, List.set_cons_succ, List.map_cons, List.map_nil, List.replicate_succ, List.replicate_zero, List.cons_append, List.nil_append, List.length_cons, List.length_nil, szl, isa_int_non, isa_int_bl, isa_int_int, isa_int_str, isa_int_tup, isa_int_lst, isa_int_ro, isa_bool_non, isa_bool_bl, isa_bool_int, isa_bool_str, isa_bool_tup, isa_bool_lst, isa_bool_ro, isa_tuple_non, isa_tuple_bl, isa_tuple_int, isa_tuple_str, isa_tuple_tup, isa_tuple_lst, isa_tuple_ro, isa_list_non, isa_list_bl, isa_list_int, isa_list_str, isa_list_tup, isa_list_lst, isa_list_ro, isa_str_non, isa_str_bl, isa_str_int, isa_str_str, isa_str_tup, isa_str_lst, isa_str_ro, isl_non, isl_bl, isl_int, isl_str, isl_tup, isl_lst, isl_ro, Nat.zero_add, Nat.reduceAdd, Nat.reduceSub, Nat.reduceLeDiff, Nat.reduceLT, Nat.reducePow, Int.reduceNeg, decide_true, decide_false, Bool.not_true, Bool.not_false, Int.reduceToNat, Int.reducePow, Int.reduceAdd, Int.reduceSub, Int.reduceMul, nco, eq_self, Int.reduceEq, Int.reduceLT, Int.reduceLE, w_run1, w_run2, w_run3, fl_tup, fl_lst, ix_tup0, ix_tup1, Bool.false_eq_true, reduceCtorEq, ↓w_comp0, ↓w_comp1, wipe0, wipe1, fall_lst, bools0, bools1, Option.map_some, List.all_cons, List.all_nil, id, Bool.and_true, Bool.and_false, Bool.true_and, Bool.false_and, ↓t_rt, ↓t_nx, t_rt, t_nx]
    refine wc_i (cd_of (by decide) (lt250 (by decide))) ?_
    simp only [↓w_ok, ↓w_exc, ↓w_bad, ↓w_bnd, ↓w_ret, ↓w_badm, ↓w_lift, ↓o_some, ↓o_none, ↓o_map, ↓o_ite, ↓c_true, ↓b_true, ↓b_false, ↓f_nx, ↓f_rt, ↓f_bk, ↓f_ct, ↓f_ex, ↓w_var, ↓w_c, ↓w_c2, ↓w_c1, ↓w_cN, ↓w_nil, ↓w_cons, ↓w_tup, ↓w_lst, ↓w_frz, ↓w_own, ↓w_call, ↓w_no, ↓w_part, ↓w_sl, ↓w_tB, ↓w_tAnd, ↓w_tOr, ↓w_tNot, ↓w_tYes, ↓w_vAnd, ↓w_vOr, ↓w_vNot, ↓w_if, ↓w_pNil, ↓w_pCons, ↓w_dict, ↓w_lc, ↓w_iSeq, ↓w_iRng, ↓w_next, ↓w_seq, ↓w_do, ↓w_sret, ↓w_sretN, ↓w_drop, ↓w_sif, ↓w_brk, ↓w_cnt, ↓w_asg, ↓w_nm, ↓w_gnil, ↓w_gcons, ↓w_gseq, ↓w_gsub, ↓w_par, ↓w_for, ↓w_dput, ↓w_app, ↓l_nx, ↓l_ct, ↓l_bk, ↓l_rt, ↓l_ex, ↓w_loop0, ↓w_run1, ↓w_run2, ↓w_run3, ↓e_rt, ↓e_nx, ↓e_ex, e_rt, e_nx, e_ex, l_nx, l_ct, l_bk, l_rt, l_ex, k_add, k_sub, k_mul, k_div, k_mod, k_pow, k_neg, k_cmp, k_eqi, k_nei, k_divmod, k_gcd, k_abs, i_tup, i_lst, i_ro, lo_lst, st_lst, st_ro, st_tup, o_some, o_none, o_map, o_ite, c_true, b_true, b_false, f_nx, f_rt, f_bk, f_ct, f_ex, boolD_bl, intD_int, two_two, w_ok, bx_turn, bx_cells, bx_put, bx_lenc, bx_ix, bx_sub, List.getElem?_cons_zero, List.getElem?_cons_succ, List.getElem?_nil, List.set_cons_zero, List.set_cons_succ, List.map_cons, List.map_nil, List.replicate_succ, List.replicate_zero, List.cons_append, List.nil_append, List.length_cons, List.length_nil, szl, isa_int_non, isa_int_bl, isa_int_int, isa_int_str, isa_int_tup, isa_int_lst, isa_int_ro, isa_bool_non, isa_bool_bl, isa_bool_int, isa_bool_str, isa_bool_tup, isa_bool_lst, isa_bool_ro, isa_tuple_non, isa_tuple_bl, isa_tuple_int, isa_tuple_str, isa_tuple_tup, isa_tuple_lst, isa_tuple_ro, isa_list_non, isa_list_bl, isa_list_int, isa_list_str, isa_list_tup, isa_list_lst, isa_list_ro, isa_str_non, isa_str_bl, isa_str_int, isa_str_str, isa_str_tup, isa_str_lst, isa_str_ro, isl_non, isl_bl, isl_int, isl_str, isl_tup, isl_lst, isl_ro, Nat.zero_add, Nat.reduceAdd, Nat.reduceSub, Nat.reduceLeDiff, Nat.reduceLT, Nat.reducePow, Int.reduceNeg, decide_true, decide_false, Bool.not_true, Bool.not_false, Int.reduceToNat, Int.reducePow, Int.reduceAdd, Int.reduceSub, Int.reduceMul, nco, eq_self, Int.reduceEq, Int.reduceLT, Int.reduceLE, w_run1, w_run2, w_run3, fl_tup, fl_lst, ix_tup0, ix_tup1, Bool.false_eq_true, reduceCtorEq, ↓w_comp0, ↓w_comp1, wipe0, wipe1, fall_lst, bools0, bools1, Option.map_some, List.all_cons, List.all_nil, id, Bool.and_true, Bool.and_false, Bool.true_and, Bool.false_and, ↓t_rt, ↓t_nx, t_rt, t_nx]
    refine wc_i hs ?_
    have hq := md ((x2 + t1 * 103049) * 69621 % 2147483629 / 64) hs
    exact q _ _ _ hne hle ht.1 (by omega) hq.1 hq.2
end PV
end

section
namespace PV
open PySem L2
def lowBody : Ts := (sSeq (sIf (tB' (c2 (dEq) (cVar 3) (cC (.int 0)))) (sSeq (sAsg (cIf (tB' (c2 (dCmp (fun i j => decide (j < i))) (cVar 1) (cC (.int 0)))) (cC (.int 1)) (c1 dNeg (cC (.int 1)))) (gNm 5))
    (sRet (cTup (aCons (c2 dDiv (c2 dMul (cVar 5) (cVar 0)) (cVar 2)) (aCons (c2 dDiv (c2 dMul (cVar 5) (cVar 1)) (cVar 2)) (aNil)))))) (sNext))
    (sPar 2 3 (aCons (cVar 3) (aCons (c2 dMod (cVar 2) (cVar 3)) (aNil)))))
def sg (b : Int) : Int := if 0 < b then 1 else -1
def lowD (a b : Int) : D := .tup [.int (sg b * a / (Nat.gcd a.natAbs b.natAbs : Nat)), .int (sg b * b / (Nat.gcd a.natAbs b.natAbs : Nat))]
section
variable {R : Fl → Sto → Prop} {E : Exn → Sto → Prop} {v : Dep R E} {a b : Int} {st : Sto}
theorem low_ret {x : Nat} {o4 o5 : Option D} (hx : 0 < x) (hx1 : x < 2 ^ 250) (ha : a.natAbs < 2 ^ 250) (hb : b.natAbs < 2 ^ 250) (q : R (.rt (.tup [.int (sg b * a / x), .int (sg b * b / x)])) st) :
    wp R E v (lowBody [some (.int a), some (.int b), some (.int x), some (.int 0), o4, o5] st) := by
  unfold lowBody
  have hs : (if b > 0 then (1 : Int) else -1) = sg b := rfl
  simp only [↓w_ok, ↓w_exc, ↓w_bad, ↓w_bnd, ↓w_ret, ↓w_badm, ↓w_lift, ↓o_some, ↓o_none, ↓o_map, ↓o_ite, ↓c_true, ↓b_true, ↓b_false, ↓f_nx, ↓f_rt, ↓f_bk, ↓f_ct, ↓f_ex, ↓w_var, ↓w_c, ↓w_c2, ↓w_c1, ↓w_cN, ↓w_nil, ↓w_cons, ↓w_tup, ↓w_lst, ↓w_frz, ↓w_own, ↓w_call, ↓w_no, ↓w_part, ↓w_sl, ↓w_tB, ↓w_tAnd, ↓w_tOr, ↓w_tNot, ↓w_tYes, ↓w_vAnd, ↓w_vOr, ↓w_vNot, ↓w_if, ↓w_pNil, ↓w_pCons, ↓w_dict, ↓w_lc, ↓w_iSeq, ↓w_iRng, ↓w_next, ↓w_seq, ↓w_do, ↓w_sret, ↓w_sretN, ↓w_drop, ↓w_sif, ↓w_brk, ↓w_cnt, ↓w_asg, ↓w_nm, ↓w_gnil, ↓w_gcons, ↓w_gseq, ↓w_gsub, ↓w_par, ↓w_for, ↓w_dput, ↓w_app, ↓l_nx, ↓l_ct, ↓l_bk, ↓l_rt, ↓l_ex, ↓w_loop0, ↓w_run1, ↓w_run2, ↓w_run3, ↓e_rt, ↓e_nx, ↓e_ex, e_rt, e_nx, e_ex, l_nx, l_ct, l_bk, l_rt, l_ex, k_add, k_sub, k_mul, k_div, k_mod, k_pow, k_neg, k_cmp, k_eqi, k_nei, k_divmod, k_gcd, k_abs, i_tup, i_lst, i_ro, lo_lst, st_lst, st_ro, st_tup, o_some, o_none, o_map, o_ite, c_true, b_true, b_false, f_nx, f_rt, f_bk, f_ct, f_ex, boolD_bl, intD_int, two_two, w_ok, bx_turn, bx_cells, bx_put, bx_lenc, bx_ix, bx_sub, List.getElem?_cons_zero, List.getElem?_cons_succ, List.getElem?_nil, List.set_cons_zero, List.set_cons_succ, List.map_cons, List.map_nil, List.replicate_succ, List.replicate_zero, List.cons_append, List.nil_append, List.length_cons, List.length_nil, szl, isa_int_non, isa_int_bl, isa_int_int, isa_int_str, isa_int_tup, isa_int_lst, isa_int_ro, isa_bool_non, isa_bool_bl, isa_bool_int, isa_bool_str, isa_bool_tup, isa_bool_lst, isa_bool_ro, isa_tuple_non, isa_tuple_bl, isa_tuple_int, isa_tuple_str, isa_tuple_tup, isa_tuple_lst, isa_tuple_ro, isa_list_non, isa_list_bl, isa_list_int, isa_list_str, isa_list_tup, isa_list_lst, isa_list_ro, isa_str_non, isa_str_bl, isa_str_int, isa_str_str, isa_str_tup, isa_str_lst, isa_str_ro, isl_non, isl_bl, isl_int, isl_str, isl_tup, isl_lst, isl_ro, Nat.zero_add, Nat.reduceAdd, Nat.reduceSub, Nat.reduceLeDiff, Nat.reduceLT, Nat.reducePow, Int.reduceNeg, decide_true, decide_false, Bool.not_true, Bool.not_false, Int.reduceToNat, Int.reducePow, Int.reduceAdd, Int.reduceSub, Int.reduceMul, nco, eq_self, Int.reduceEq, Int.reduceLT, Int.reduceLE, w_run1, w_run2, w_run3, fl_tup, fl_lst, ix_tup0, ix_tup1, Bool.false_eq_true, reduceCtorEq, ↓w_comp0, ↓w_comp1, wipe0, wipe1, fall_lst, bools0, bools1, Option.map_some, List.all_cons, List.all_nil, id, Bool.and_true, Bool.and_false, Bool.true_and, Bool.false_and, ↓t_rt, ↓t_nx, t_rt, t_nx]
  have hc : ∀ s : Int, s = 1 ∨ s = -1 → CMulW s a = True ∧ CMulW s b = True := fun s h => ⟨eq_true (cm_of (lt250 (by rcases h with rfl | rfl <;> decide)) ha), eq_true (cm_of (lt250 (by rcases h with rfl | rfl <;> decide)) hb)⟩
  have hd : ∀ z : Int, CDivW z (x : Int) = True := fun z => eq_true (cd_of (by omega) (by omega))
  have c1 := hc 1 (Or.inl rfl)
  have c2 := hc (-1) (Or.inr rfl)
  by_cases h : 0 < b
  · have e : sg b = 1 := if_pos h
    rw [e] at q
    simp only [↓w_ok, ↓w_exc, ↓w_bad, ↓w_bnd, ↓w_ret, ↓w_badm, ↓w_lift, ↓o_some, ↓o_none, ↓o_map, ↓o_ite, ↓c_true, ↓b_true, ↓b_false, ↓f_nx, ↓f_rt, ↓f_bk, ↓f_ct, ↓f_ex, ↓w_var, ↓w_c, ↓w_c2, ↓w_c1, ↓w_cN, ↓w_nil, ↓w_cons, ↓w_tup, ↓w_lst, ↓w_frz, ↓w_own, ↓w_call, ↓w_no, ↓w_part, ↓w_sl, ↓w_tB, ↓w_tAnd, ↓w_tOr, ↓w_tNot, ↓w_tYes, ↓w_vAnd, ↓w_vOr, ↓w_vNot, ↓w_if, ↓w_pNil, ↓w_pCons, ↓w_dict, ↓w_lc, ↓w_iSeq, ↓w_iRng, ↓w_next, ↓w_seq, ↓w_do, ↓w_sret, ↓w_sretN, ↓w_drop, ↓w_sif, ↓w_brk, ↓w_cnt, ↓w_asg, ↓w_nm, ↓w_gnil, ↓w_gcons, ↓w_gseq, ↓w_gsub, ↓w_par, ↓w_for, ↓w_dput, ↓w_app, ↓l_nx, ↓l_ct, ↓l_bk, ↓l_rt, ↓l_ex, ↓w_loop0, ↓w_run1, ↓w_run2, ↓w_run3, ↓e_rt, ↓e_nx, ↓e_ex, e_rt, e_nx, e_ex, l_nx, l_ct, l_bk, l_rt, l_ex, k_add, k_sub, k_mul, k_div, k_mod, k_pow, k_neg, k_cmp, k_eqi, k_nei, k_divmod, k_gcd, k_abs, i_tup, i_lst, i_ro, lo_lst, st_lst, st_ro, st_tup, o_some, o_none, o_map, o_ite, c_true, b_true, b_false, f_nx, f_rt, f_bk, f_ct, f_ex, boolD_bl, intD_int, two_two, w_ok, bx_turn, bx_cells, bx_put, bx_lenc, bx_ix, bx_sub, List.getElem?_cons_zero, List.getElem?_cons_succ, List.getElem?_nil, List.set_cons_zero, List.set_cons_succ, List.map_cons, List.map_nil, List.replicate_succ, List.replicate_zero, List.cons_append, List.nil_append, List.length_cons, List.length_nil, szl, isa_int_non, isa_int_bl, isa_int_int, isa_int_str, isa_int_tup, isa_int_lst, isa_int_ro, isa_bool_non, isa_bool_bl, isa_bool_int, isa_bool_str, isa_bool_tup, isa_bool_lst, isa_bool_ro, isa_tuple_non, isa_tuple_bl, isa_tuple_int, isa_tuple_str, isa_tuple_tup, isa_tuple_lst, isa_tuple_ro, isa_list_non, isa_list_bl, isa_list_int, isa_list_str, isa_list_tup, isa_list_lst, isa_list_ro, isa_str_non, isa_str_bl, isa_str_int, isa_str_str, isa_str_tup, isa_str_lst, isa_str_ro, isl_non, isl_bl, isl_int, isl_str, isl_tup, isl_lst, isl_ro, Nat.zero_add, Nat.reduceAdd, Nat.reduceSub, Nat.reduceLeDiff, Nat.reduceLT, Nat.reducePow, Int.reduceNeg, decide_true, decide_false, Bool.not_true, Bool.not_false, Int.reduceToNat, Int.reducePow, Int.reduceAdd, Int.reduceSub, Int.reduceMul, nco, eq_self, Int.reduceEq, Int.reduceLT, Int.reduceLE, w_run1, w_run2, w_run3, fl_tup, fl_lst, ix_tup0, ix_tup1, Bool.false_eq_true, reduceCtorEq, ↓w_comp0, ↓w_comp1, wipe0, wipe1, fall_lst, bools0, bools1, Option.map_some, List.all_cons, List.all_nil, id, Bool.and_true, Bool.and_false, Bool.true_and, Bool.false_and, ↓t_rt, ↓t_nx, t_rt, t_nx, h, hd, c1.1, c1.2]
    exact q
  · have e : sg b = -1 := if_neg h
    rw [e] at q
    simp only [↓w_ok, ↓w_exc, ↓w_bad, ↓w_bnd, ↓w_ret, ↓w_badm, ↓w_lift, ↓o_some, ↓o_none, ↓o_map, ↓o_ite, ↓c_true, ↓b_true, ↓b_false, ↓f_nx, ↓f_rt, ↓f_bk, ↓f_ct, ↓f_ex, ↓w_var, ↓w_c, ↓w_c2, ↓w_c1, ↓w_cN, ↓w_nil, ↓w_cons, ↓w_tup, ↓w_lst, ↓w_frz, ↓w_own, ↓w_call, ↓w_no, ↓w_part, ↓w_sl, ↓w_tB, ↓w_tAnd, ↓w_tOr, ↓w_tNot, ↓w_tYes, ↓w_vAnd, ↓w_vOr, ↓w_vNot, ↓w_if, ↓w_pNil, ↓w_pCons, ↓w_dict, ↓w_lc, ↓w_iSeq, ↓w_iRng, ↓w_next, ↓w_seq, ↓w_do, ↓w_sret, ↓w_sretN, ↓w_drop, ↓w_sif, ↓w_brk, ↓w_cnt, ↓w_asg, ↓w_nm, ↓w_gnil, ↓w_gcons, ↓w_gseq, ↓w_gsub, ↓w_par, ↓w_for, ↓w_dput, ↓w_app, ↓l_nx, ↓l_ct, ↓l_bk, ↓l_rt, ↓l_ex, ↓w_loop0, ↓w_run1, ↓w_run2, ↓w_run3, ↓e_rt, ↓e_nx, ↓e_ex, e_rt, e_nx, e_ex, l_nx, l_ct, l_bk, l_rt, l_ex, k_add, k_sub, k_mul, k_div, k_mod, k_pow, k_neg, k_cmp, k_eqi, k_nei, k_divmod, k_gcd, k_abs, i_tup, i_lst, i_ro, lo_lst, st_lst, st_ro, st_tup, o_some, o_none, o_map, o_ite, c_true, b_true, b_false, f_nx, f_rt, f_bk, f_ct, f_ex, boolD_bl, intD_int, two_two, w_ok, bx_turn, bx_cells, bx_put, bx_lenc, bx_ix, bx_sub, List.getElem?_cons_zero, List.getElem?_cons_succ, List.getElem?_nil, List.set_cons_zero, List.set_cons_succ, List.map_cons, List.map_nil, List.replicate_succ, List.replicate_zero, List.cons_append, List.nil_append, List.length_cons, List.length_nil, szl, isa_int_non, isa_int_bl, isa_int_int, isa_int_str, isa_int_tup, isa_int_lst, isa_int_ro, isa_bool_non, isa_bool_bl, isa_bool_int, isa_bool_str, isa_bool_tup, isa_bool_lst, isa_bool_ro, isa_tuple_non, isa_tuple_bl, isa_tuple_int, isa_tuple_str, isa_tuple_tup, isa_tuple_lst, isa_tuple_ro, isa_list_non, isa_list_bl, isa_list_int, isa_list_str, isa_list_tup, isa_list_lst, isa_list_ro, isa_str_non, isa_str_bl, isa_str_int, isa_str_str, isa_str_tup, isa_str_lst, isa_str_ro, isl_non, isl_bl, isl_int, isl_str, isl_tup, isl_lst, isl_ro, Nat.zero_add, Nat.reduceAdd, Nat.reduceSub, Nat.reduceLeDiff, Nat.reduceLT, Nat.reducePow, Int.reduceNeg, decide_true, decide_false, Bool.not_true, Bool.not_false, Int.reduceToNat, Int.reducePow, Int.reduceAdd, Int.reduceSub, Int.reduceMul, nco, eq_self, Int.reduceEq, Int.reduceLT, Int.reduceLE, w_run1, w_run2, w_run3, fl_tup, fl_lst, ix_tup0, ix_tup1, Bool.false_eq_true, reduceCtorEq, ↓w_comp0, ↓w_comp1, wipe0, wipe1, fall_lst, bools0, bools1, Option.map_some, List.all_cons, List.all_nil, id, Bool.and_true, Bool.and_false, Bool.true_and, Bool.false_and, ↓t_rt, ↓t_nx, t_rt, t_nx, h, hd, c2.1, c2.2]
    exact q
theorem low_go {x y : Nat} {o4 o5 : Option D} {P : Fl → Sto → Prop} {u : Dep P E} (hy : 0 < y) (q : P (.nx [some (.int a), some (.int b), some (.int (y : Nat)), some (.int ((x % y : Nat) : Int)), o4, o5]) st) :
    wp P E u (lowBody [some (.int a), some (.int b), some (.int (x : Nat)), some (.int (y : Nat)), o4, o5] st) := by
  unfold lowBody
  have h1 : ((y : Nat) : Int) ≠ 0 := by omega
  have h2 : (0 : Int) < ((y : Nat) : Int) := by omega
  simp only [↓w_ok, ↓w_exc, ↓w_bad, ↓w_bnd, ↓w_ret, ↓w_badm, ↓w_lift, ↓o_some, ↓o_none, ↓o_map, ↓o_ite, ↓c_true, ↓b_true, ↓b_false, ↓f_nx, ↓f_rt, ↓f_bk, ↓f_ct, ↓f_ex, ↓w_var, ↓w_c, ↓w_c2, ↓w_c1, ↓w_cN, ↓w_nil, ↓w_cons, ↓w_tup, ↓w_lst, ↓w_frz, ↓w_own, ↓w_call, ↓w_no, ↓w_part, ↓w_sl, ↓w_tB, ↓w_tAnd, ↓w_tOr, ↓w_tNot, ↓w_tYes, ↓w_vAnd, ↓w_vOr, ↓w_vNot, ↓w_if, ↓w_pNil, ↓w_pCons, ↓w_dict, ↓w_lc, ↓w_iSeq, ↓w_iRng, ↓w_next, ↓w_seq, ↓w_do, ↓w_sret, ↓w_sretN, ↓w_drop, ↓w_sif, ↓w_brk, ↓w_cnt, ↓w_asg, ↓w_nm, ↓w_gnil, ↓w_gcons, ↓w_gseq, ↓w_gsub, ↓w_par, ↓w_for, ↓w_dput, ↓w_app, ↓l_nx, ↓l_ct, ↓l_bk, ↓l_rt, ↓l_ex, ↓w_loop0, ↓w_run1, ↓w_run2, ↓w_run3, ↓e_rt, ↓e_nx, ↓e_ex, e_rt, e_nx, e_ex, l_nx, l_ct, l_bk, l_rt, l_ex, k_add, k_sub, k_mul, k_div, k_mod, k_pow, k_neg, k_cmp, k_eqi, k_nei, k_divmod, k_gcd, k_abs, i_tup, i_lst, i_ro, lo_lst, st_lst, st_ro, st_tup, o_some, o_none, o_map, o_ite, c_true, b_true, b_false, f_nx, f_rt, f_bk, f_ct, f_ex, boolD_bl, intD_int, two_two, w_ok, bx_turn, bx_cells, bx_put, bx_lenc, bx_ix, bx_sub, List.getElem?_cons_zero, List.getElem?_cons_succ, List.getElem?_nil, List.set_cons_zero, List.set_cons_succ, List.map_cons, List.map_nil, List.replicate_succ, List.replicate_zero, List.cons_append, List.nil_append, List.length_cons, List.length_nil, szl, isa_int_non, isa_int_bl, isa_int_int, isa_int_str, isa_int_tup, isa_int_lst, isa_int_ro, isa_bool_non, isa_bool_bl, isa_bool_int, isa_bool_str, isa_bool_tup, isa_bool_lst, isa_bool_ro, isa_tuple_non, isa_tuple_bl, isa_tuple_int, isa_tuple_str, isa_tuple_tup, isa_tuple_lst, isa_tuple_ro, isa_list_non, isa_list_bl, isa_list_int, isa_list_str, isa_list_tup, isa_list_lst, isa_list_ro, isa_str_non, isa_str_bl, isa_str_int, isa_str_str, isa_str_tup, isa_str_lst, isa_str_ro, isl_non, isl_bl, isl_int, isl_str, isl_tup, isl_lst, isl_ro, Nat.zero_add, Nat.reduceAdd, Nat.reduceSub, Nat.reduceLeDiff, Nat.reduceLT, Nat.reducePow, Int.reduceNeg, decide_true, decide_false, Bool.not_true, Bool.not_false, Int.reduceToNat, Int.reducePow, Int.reduceAdd, Int.reduceSub, Int.reduceMul, nco, eq_self, Int.reduceEq, Int.reduceLT, Int.reduceLE, w_run1, w_run2, w_run3, fl_tup, fl_lst, ix_tup0, ix_tup1, Bool.false_eq_true, reduceCtorEq, ↓w_comp0, ↓w_comp1, wipe0, wipe1, fall_lst, bools0, bools1, Option.map_some, List.all_cons, List.all_nil, id, Bool.and_true, Bool.and_false, Bool.true_and, Bool.false_and, ↓t_rt, ↓t_nx, t_rt, t_nx, h1, h2]
  rw [← Int.natCast_emod] 
  exact q
theorem low_loop (ha : a.natAbs < 2 ^ 250) (hb : b.natAbs < 2 ^ 250) (q : R (.rt (lowD a b)) st) : ∀ (k : Nat) (xs : List D) (x y : Nat) (o4 o5 : Option D), 2 * k + 1 ≤ xs.length → y < 2 ^ k → 0 < x + y → x < 2 ^ 250 → y < 2 ^ 250 → Nat.gcd x y = Nat.gcd a.natAbs b.natAbs →
    wp R E v (loopD (gNm 4) lowBody xs [some (.int a), some (.int b), some (.int (x : Nat)), some (.int (y : Nat)), o4, o5] st) := by
  have zero : ∀ (z : D) (zs : List D) (x : Nat) (o4 o5 : Option D), 0 < x → x < 2 ^ 250 → x = Nat.gcd a.natAbs b.natAbs → wp R E v (loopD (gNm 4) lowBody (z :: zs) [some (.int a), some (.int b), some (.int (x : Nat)), some (.int 0), o4, o5] st) := by
    intro z zs x o4 o5 h0 h1 e
    rw [w_loop1]
    simp only [↓w_ok, ↓w_exc, ↓w_bad, ↓w_bnd, ↓w_ret, ↓w_badm, ↓w_lift, ↓o_some, ↓o_none, ↓o_map, ↓o_ite, ↓c_true, ↓b_true, ↓b_false, ↓f_nx, ↓f_rt, ↓f_bk, ↓f_ct, ↓f_ex, ↓w_var, ↓w_c, ↓w_c2, ↓w_c1, ↓w_cN, ↓w_nil, ↓w_cons, ↓w_tup, ↓w_lst, ↓w_frz, ↓w_own, ↓w_call, ↓w_no, ↓w_part, ↓w_sl, ↓w_tB, ↓w_tAnd, ↓w_tOr, ↓w_tNot, ↓w_tYes, ↓w_vAnd, ↓w_vOr, ↓w_vNot, ↓w_if, ↓w_pNil, ↓w_pCons, ↓w_dict, ↓w_lc, ↓w_iSeq, ↓w_iRng, ↓w_next, ↓w_seq, ↓w_do, ↓w_sret, ↓w_sretN, ↓w_drop, ↓w_sif, ↓w_brk, ↓w_cnt, ↓w_asg, ↓w_nm, ↓w_gnil, ↓w_gcons, ↓w_gseq, ↓w_gsub, ↓w_par, ↓w_for, ↓w_dput, ↓w_app, ↓l_nx, ↓l_ct, ↓l_bk, ↓l_rt, ↓l_ex, ↓w_loop0, ↓w_run1, ↓w_run2, ↓w_run3, ↓e_rt, ↓e_nx, ↓e_ex, e_rt, e_nx, e_ex, l_nx, l_ct, l_bk, l_rt, l_ex, k_add, k_sub, k_mul, k_div, k_mod, k_pow, k_neg, k_cmp, k_eqi, k_nei, k_divmod, k_gcd, k_abs, i_tup, i_lst, i_ro, lo_lst, st_lst, st_ro, st_tup, o_some, o_none, o_map, o_ite, c_true, b_true, b_false, f_nx, f_rt, f_bk, f_ct, f_ex, boolD_bl, intD_int, two_two, w_ok, bx_turn, bx_cells, bx_put, bx_lenc, bx_ix, bx_sub, List.getElem?_cons_zero, List.getElem?_cons_succ, List.getElem?_nil, List.set_cons_zero, List.set_cons_succ, List.map_cons, List.map_nil, List.replicate_succ, List.replicate_zero, List.cons_append, List.nil_append, List.length_cons, List.length_nil, szl, isa_int_non, isa_int_bl, isa_int_int, isa_int_str, isa_int_tup, isa_int_lst, isa_int_ro, isa_bool_non, isa_bool_bl, isa_bool_int, isa_bool_str, isa_bool_tup, isa_bool_lst, isa_bool_ro, isa_tuple_non, isa_tuple_bl, isa_tuple_int, isa_tuple_str, isa_tuple_tup, isa_tuple_lst, isa_tuple_ro, isa_list_non, isa_list_bl, isa_list_int, isa_list_str, isa_list_tup, isa_list_lst, isa_list_ro, isa_str_non, isa_str_bl, isa_str_int, isa_str_str, isa_str_tup, isa_str_lst, isa_str_ro, isl_non, isl_bl, isl_int, isl_str, isl_tup, isl_lst, isl_ro, Nat.zero_add, Nat.reduceAdd, Nat.reduceSub, Nat.reduceLeDiff, Nat.reduceLT, Nat.reducePow, Int.reduceNeg, decide_true, decide_false, Bool.not_true, Bool.not_false, Int.reduceToNat, Int.reducePow, Int.reduceAdd, Int.reduceSub, Int.reduceMul, nco, eq_self, Int.reduceEq, Int.reduceLT, Int.reduceLE, w_run1, w_run2, w_run3, fl_tup, fl_lst, ix_tup0, ix_tup1, Bool.false_eq_true, reduceCtorEq, ↓w_comp0, ↓w_comp1, wipe0, wipe1, fall_lst, bools0, bools1, Option.map_some, List.all_cons, List.all_nil, id, Bool.and_true, Bool.and_false, Bool.true_and, Bool.false_and, ↓t_rt, ↓t_nx, t_rt, t_nx]
    refine low_ret h0 h1 ha hb ?_
    rw [e]
    exact q
  intro k
  induction k with
  | zero =>
    intro xs x y o4 o5 hl hy h0 h1 hy2 hg
    have : y = 0 := by omega
    subst this
    match xs, hl with
    | z :: zs, _ => exact zero z zs x o4 o5 (by omega) h1 (by simpa using hg)
  | succ k ih =>
    intro xs x y o4 o5 hl hy h0 h1 hy2 hg
    match xs, hl with
    | z :: z2 :: zs, hl =>
      by_cases e : y = 0
      · subst e
        exact zero z _ x o4 o5 (by omega) h1 (by simpa using hg)
      · have hy0 : 0 < y := by omega
        rw [w_loop1]
        simp only [↓w_ok, ↓w_exc, ↓w_bad, ↓w_bnd, ↓w_ret, ↓w_badm, ↓w_lift, ↓o_some, ↓o_none, ↓o_map, ↓o_ite, ↓c_true, ↓b_true, ↓b_false, ↓f_nx, ↓f_rt, ↓f_bk, ↓f_ct, ↓f_ex, ↓w_var, ↓w_c, ↓w_c2, ↓w_c1, ↓w_cN, ↓w_nil, ↓w_cons, ↓w_tup, ↓w_lst, ↓w_frz, ↓w_own, ↓w_call, ↓w_no, ↓w_part, ↓w_sl, ↓w_tB, ↓w_tAnd, ↓w_tOr, ↓w_tNot, ↓w_tYes, ↓w_vAnd, ↓w_vOr, ↓w_vNot, ↓w_if, ↓w_pNil, ↓w_pCons, ↓w_dict, ↓w_lc, ↓w_iSeq, ↓w_iRng, ↓w_next, ↓w_seq, ↓w_do, ↓w_sret, ↓w_sretN, ↓w_drop, ↓w_sif, ↓w_brk, ↓w_cnt, ↓w_asg, ↓w_nm, ↓w_gnil, ↓w_gcons, ↓w_gseq, ↓w_gsub, ↓w_par, ↓w_for, ↓w_dput, ↓w_app, ↓l_nx, ↓l_ct, ↓l_bk, ↓l_rt, ↓l_ex, ↓w_loop0, ↓w_run1, ↓w_run2, ↓w_run3, ↓e_rt, ↓e_nx, ↓e_ex, e_rt, e_nx, e_ex, l_nx, l_ct, l_bk, l_rt, l_ex, k_add, k_sub, k_mul, k_div, k_mod, k_pow, k_neg, k_cmp, k_eqi, k_nei, k_divmod, k_gcd, k_abs, i_tup, i_lst, i_ro, lo_lst, st_lst, st_ro, st_tup, o_some, o_none, o_map, o_ite, c_true, b_true, b_false, f_nx, f_rt, f_bk, f_ct, f_ex, boolD_bl, intD_int, two_two, w_ok, bx_turn, bx_cells, bx_put, bx_lenc, bx_ix, bx_sub, List.getElem?_cons_zero, List.getElem?_cons_succ, List.getElem?_nil, List.set_cons_zero, List.set_cons_succ, List.map_cons, List.map_nil, List.replicate_succ, List.replicate_zero, List.cons_append, List.nil_append, List.length_cons, List.length_nil, szl, isa_int_non, isa_int_bl, isa_int_int, isa_int_str, isa_int_tup, isa_int_lst, isa_int_ro, isa_bool_non, isa_bool_bl, isa_bool_int, isa_bool_str, isa_bool_tup, isa_bool_lst, isa_bool_ro, isa_tuple_non, isa_tuple_bl, isa_tuple_int, isa_tuple_str, isa_tuple_tup, isa_tuple_lst, isa_tuple_ro, isa_list_non, isa_list_bl, isa_list_int, isa_list_str, isa_list_tup, isa_list_lst, isa_list_ro, isa_str_non, isa_str_bl, isa_str_int, isa_str_str, isa_str_tup, isa_str_lst, isa_str_ro, isl_non, isl_bl, isl_int, isl_str, isl_tup, isl_lst, isl_ro, Nat.zero_add, Nat.reduceAdd, Nat.reduceSub, Nat.reduceLeDiff, Nat.reduceLT, Nat.reducePow, Int.reduceNeg, decide_true, decide_false, Bool.not_true, Bool.not_false, Int.reduceToNat, Int.reducePow, Int.reduceAdd, Int.reduceSub, Int.reduceMul, nco, eq_self, Int.reduceEq, Int.reduceLT, Int.reduceLE, w_run1, w_run2, w_run3, fl_tup, fl_lst, ix_tup0, ix_tup1, Bool.false_eq_true, reduceCtorEq, ↓w_comp0, ↓w_comp1, wipe0, wipe1, fall_lst, bools0, bools1, Option.map_some, List.all_cons, List.all_nil, id, Bool.and_true, Bool.and_false, Bool.true_and, Bool.false_and, ↓t_rt, ↓t_nx, t_rt, t_nx]
        refine low_go hy0 ?_
        simp only [↓w_ok, ↓w_exc, ↓w_bad, ↓w_bnd, ↓w_ret, ↓w_badm, ↓w_lift, ↓o_some, ↓o_none, ↓o_map, ↓o_ite, ↓c_true, ↓b_true, ↓b_false, ↓f_nx, ↓f_rt, ↓f_bk, ↓f_ct, ↓f_ex, ↓w_var, ↓w_c, ↓w_c2, ↓w_c1, ↓w_cN, ↓w_nil, ↓w_cons, ↓w_tup, ↓w_lst, ↓w_frz, ↓w_own, ↓w_call, ↓w_no, ↓w_part, ↓w_sl, ↓w_tB, ↓w_tAnd, ↓w_tOr, ↓w_tNot, ↓w_tYes, ↓w_vAnd, ↓w_vOr, ↓w_vNot, ↓w_if, ↓w_pNil, ↓w_pCons, ↓w_dict, ↓w_lc, ↓w_iSeq, ↓w_iRng, ↓w_next, ↓w_seq, ↓w_do, ↓w_sret, ↓w_sretN, ↓w_drop, ↓w_sif, ↓w_brk, ↓w_cnt, ↓w_asg, ↓w_nm, ↓w_gnil, ↓w_gcons, ↓w_gseq, ↓w_gsub, ↓w_par, ↓w_for, ↓w_dput, ↓w_app, ↓l_nx, ↓l_ct, ↓l_bk, ↓l_rt, ↓l_ex, ↓w_loop0, ↓w_run1, ↓w_run2, ↓w_run3, ↓e_rt, ↓e_nx, ↓e_ex, e_rt, e_nx, e_ex, l_nx, l_ct, l_bk, l_rt, l_ex, k_add, k_sub, k_mul, k_div, k_mod, k_pow, k_neg, k_cmp, k_eqi, k_nei, k_divmod, k_gcd, k_abs, i_tup, i_lst, i_ro, lo_lst, st_lst, st_ro, st_tup, o_some, o_none, o_map, o_ite, c_true, b_true, b_false, f_nx, f_rt, f_bk, f_ct, f_ex, boolD_bl, intD_int, two_two, w_ok, bx_turn, bx_cells, bx_put, bx_lenc, bx_ix, bx_sub, List.getElem?_cons_zero, List.getElem?_cons_succ, List.getElem?_nil, List.set_cons_zero, List.set_cons_succ, List.map_cons, List.map_nil, List.replicate_succ, List.replicate_zero, List.cons_append, List.nil_append, List.length_cons, List.length_nil, szl, isa_int_non, isa_int_bl, isa_int_int, isa_int_str, isa_int_tup, isa_int_lst, isa_int_ro, isa_bool_non, isa_bool_bl, isa_bool_int, isa_bool_str, isa_bool_tup, isa_bool_lst, isa_bool_ro, isa_tuple_non, isa_tuple_bl, isa_tuple_int, isa_tuple_str, isa_tuple_tup, isa_tuple_lst, isa_tuple_ro, isa_list_non, isa_list_bl, isa_list_int, isa_list_str, isa_list_tup, isa_list_lst, isa_list_ro, isa_str_non, isa_str_bl, isa_str_int, isa_str_str, isa_str_tup, isa_str_lst, isa_str_ro, isl_non, isl_bl, isl_int, isl_str, isl_tup, isl_lst, isl_ro, Nat.zero_add, Nat.reduceAdd, Nat.reduceSub, Nat.reduceLeDiff, Nat.reduceLT, Nat.reducePow, Int.reduceNeg, decide_true, decide_false, Bool.not_true, Bool.not_false, Int.reduceToNat, Int.reducePow, Int.reduceAdd, Int.reduceSub, Int.reduceMul, nco, eq_self, Int.reduceEq, Int.reduceLT, Int.reduceLE, w_run1, w_run2, w_run3, fl_tup, fl_lst, ix_tup0, ix_tup1, Bool.false_eq_true, reduceCtorEq, ↓w_comp0, ↓w_comp1, wipe0, wipe1, fall_lst, bools0, bools1, Option.map_some, List.all_cons, List.all_nil, id, Bool.and_true, Bool.and_false, Bool.true_and, Bool.false_and, ↓t_rt, ↓t_nx, t_rt, t_nx]
        by_cases e2 : x % y = 0
        · rw [e2]
          exact zero z2 zs y _ o5 hy0 hy2 (by rw [← hg, Nat.gcd_comm, Nat.gcd_rec, e2, Nat.gcd_zero_left])
        · rw [w_loop1]
          simp only [↓w_ok, ↓w_exc, ↓w_bad, ↓w_bnd, ↓w_ret, ↓w_badm, ↓w_lift, ↓o_some, ↓o_none, ↓o_map, ↓o_ite, ↓c_true, ↓b_true, ↓b_false, ↓f_nx, ↓f_rt, ↓f_bk, ↓f_ct, ↓f_ex, ↓w_var, ↓w_c, ↓w_c2, ↓w_c1, ↓w_cN, ↓w_nil, ↓w_cons, ↓w_tup, ↓w_lst, ↓w_frz, ↓w_own, ↓w_call, ↓w_no, ↓w_part, ↓w_sl, ↓w_tB, ↓w_tAnd, ↓w_tOr, ↓w_tNot, ↓w_tYes, ↓w_vAnd, ↓w_vOr, ↓w_vNot, ↓w_if, ↓w_pNil, ↓w_pCons, ↓w_dict, ↓w_lc, ↓w_iSeq, ↓w_iRng, ↓w_next, ↓w_seq, ↓w_do, ↓w_sret, ↓w_sretN, ↓w_drop, ↓w_sif, ↓w_brk, ↓w_cnt, ↓w_asg, ↓w_nm, ↓w_gnil, ↓w_gcons, ↓w_gseq, ↓w_gsub, ↓w_par, ↓w_for, ↓w_dput, ↓w_app, ↓l_nx, ↓l_ct, ↓l_bk, ↓l_rt, ↓l_ex, ↓w_loop0, ↓w_run1, ↓w_run2, ↓w_run3, ↓e_rt, ↓e_nx, ↓e_ex, e_rt, e_nx, e_ex, l_nx, l_ct, l_bk, l_rt, l_ex, k_add, k_sub, k_mul, k_div, k_mod, k_pow, k_neg, k_cmp, k_eqi, k_nei, k_divmod, k_gcd, k_abs, i_tup, i_lst, i_ro, lo_lst, st_lst, st_ro, st_tup, o_some, o_none, o_map, o_ite, c_true, b_true, b_false, f_nx, f_rt, f_bk, f_ct, f_ex, boolD_bl, intD_int, two_two, w_ok, bx_turn, bx_cells, bx_put, bx_lenc, bx_ix, bx_sub, List.getElem?_cons_zero, List.getElem?_cons_succ, List.getElem?_nil, List.set_cons_zero, List.set_cons_succ, List.map_cons, List.map_nil, List.replicate_succ, List.replicate_zero, List.cons_append, List.nil_append, List.length_cons, List.length_nil, szl, isa_int_non, isa_int_bl, isa_int_int, isa_int_str, isa_int_tup, isa_int_lst, isa_int_ro, isa_bool_non, isa_bool_bl, isa_bool_int, isa_bool_str, isa_bool_tup, isa_bool_lst, isa_bool_ro, isa_tuple_non, isa_tuple_bl, isa_tuple_int, isa_tuple_str, isa_tuple_tup, isa_tuple_lst, isa_tuple_ro, isa_list_non, isa_list_bl, isa_list_int, isa_list_str, isa_list_tup, isa_list_lst, isa_list_ro, isa_str_non, isa_str_bl, isa_str_int, isa_str_str, isa_str_tup, isa_str_lst, isa_str_ro, isl_non, isl_bl, isl_int, isl_str, isl_tup, isl_lst, isl_ro, Nat.zero_add, Nat.reduceAdd, Nat.reduceSub, Nat.reduceLeDiff, Nat.reduceLT, Nat.reducePow, Int.reduceNeg, decide_true, decide_false, Bool.not_true, Bool.not_false, Int.reduceToNat, Int.reducePow, Int.reduceAdd, Int.reduceSub, Int.reduceMul, nco, eq_self, Int.reduceEq, Int.reduceLT, Int.reduceLE, w_run1, w_run2, w_run3, fl_tup, fl_lst, ix_tup0, ix_tup1, Bool.false_eq_true, reduceCtorEq, ↓w_comp0, ↓w_comp1, wipe0, wipe1, fall_lst, bools0, bools1, Option.map_some, List.all_cons, List.all_nil, id, Bool.and_true, Bool.and_false, Bool.true_and, Bool.false_and, ↓t_rt, ↓t_nx, t_rt, t_nx]
          refine low_go (by omega) ?_
          simp only [↓w_ok, ↓w_exc, ↓w_bad, ↓w_bnd, ↓w_ret, ↓w_badm, ↓w_lift, ↓o_some, ↓o_none, ↓o_map, ↓o_ite, ↓c_true, ↓b_true, ↓b_false, ↓f_nx, ↓f_rt, ↓f_bk, ↓f_ct, ↓f_ex, ↓w_var, ↓w_c, ↓w_c2, ↓w_c1, ↓w_cN, ↓w_nil, ↓w_cons, ↓w_tup, ↓w_lst, ↓w_frz, ↓w_own, ↓w_call, ↓w_no, ↓w_part, ↓w_sl, ↓w_tB, ↓w_tAnd, ↓w_tOr, ↓w_tNot, ↓w_tYes, ↓w_vAnd, ↓w_vOr, ↓w_vNot, ↓w_if, ↓w_pNil, ↓w_pCons, ↓w_dict, ↓w_lc, ↓w_iSeq, ↓w_iRng, ↓w_next, ↓w_seq, ↓w_do, ↓w_sret, ↓w_sretN, ↓w_drop, ↓w_sif, ↓w_brk, ↓w_cnt, ↓w_asg, ↓w_nm, ↓w_gnil, ↓w_gcons, ↓w_gseq, ↓w_gsub, ↓w_par, ↓w_for, ↓w_dput, ↓w_app, ↓l_nx, ↓l_ct, ↓l_bk, ↓l_rt, ↓l_ex, ↓w_loop0, ↓w_run1, ↓w_run2, ↓w_run3, ↓e_rt, ↓e_nx, ↓e_ex, e_rt, e_nx, e_ex, l_nx, l_ct, l_bk, l_rt, l_ex, k_add, k_sub, k_mul, k_div, k_mod, k_pow, k_neg, k_cmp, k_eqi, k_nei, k_divmod, k_gcd, k_abs, i_tup, i_lst, i_ro, lo_lst, st_lst, st_ro, st_tup, o_some, o_none, o_map, o_ite, c_true, b_true, b_false, f_nx, f_rt, f_bk, f_ct, f_ex, boolD_bl, intD_int, two_two, w_ok, bx_turn, bx_cells, bx_put, bx_lenc, bx_ix, bx_sub, List.getElem?_cons_zero, List.getElem?_cons_succ, List.getElem?_nil, List.set_cons_zero, List.set_cons_succ, List.map_cons, List.map_nil, List.replicate_succ, List.replicate_zero, List.cons_append, List.nil_append, List.length_cons, List.length_nil, szl, isa_int_non, isa_int_bl, isa_int_int, isa_int_str, isa_int_tup, isa_int_lst, isa_int_ro, isa_bool_non, isa_bool_bl, isa_bool_int, isa_bool_str, isa_bool_tup, isa_bool_lst, isa_bool_ro, isa_tuple_non, isa_tuple_bl, isa_tuple_int, isa_tuple_str, isa_tuple_tup, isa_tuple_lst, isa_tuple_ro, isa_list_non, isa_list_bl, isa_list_int, isa_list_str, isa_list_tup, isa_list_lst, isa_list_ro, isa_str_non, isa_str_bl, isa_str_int, isa_str_str, isa_str_tup, isa_str_lst, isa_str_ro, isl_non, isl_bl, isl_int, isl_str, isl_tup, isl_lst, isl_ro, Nat.zero_add, Nat.reduceAdd, Nat.reduceSub, Nat.reduceLeDiff, Nat.reduceLT, Nat.reducePow, Int.reduceNeg, decide_true, decide_false, Bool.not_true, Bool.not_false, Int.reduceToNat, Int.reducePow, Int.reduceAdd, Int.reduceSub, Int.reduceMul, nco, eq_self, Int.reduceEq, Int.reduceLT, Int.reduceLE, w_run1, w_run2, w_run3, fl_tup, fl_lst, ix_tup0, ix_tup1, Bool.false_eq_true, reduceCtorEq, ↓w_comp0, ↓w_comp1, wipe0, wipe1, fall_lst, bools0, bools1, Option.map_some, List.all_cons, List.all_nil, id, Bool.and_true, Bool.and_false, Bool.true_and, Bool.false_and, ↓t_rt, ↓t_nx, t_rt, t_nx]
          have hr := Nat.mod_lt x hy0
          have hr2 := Nat.mod_lt y (show x % y > 0 by omega)
          refine ih zs _ _ _ _ (by simp at hl; omega) ?_ (by omega) (by omega) (by omega) (by rw [← hg, Nat.gcd_comm x y, Nat.gcd_rec y x, Nat.gcd_comm, Nat.gcd_rec (x % y) y, Nat.gcd_comm])
          have h3 := Nat.mod_lt y (show x % y > 0 by omega)
          generalize x % y = r at *
          have h4 : 2 * (y % r) < y := by
            have h5 := Nat.div_add_mod y r
            have h6 : 1 ≤ y / r := (Nat.one_le_div_iff (by omega)).mpr (by omega)
            have h7 : r * 1 ≤ r * (y / r) := Nat.mul_le_mul_left _ h6
            omega
          rw [Nat.pow_succ] at hy
          omega
theorem wp_low {P : D → Sto → Prop} {u : Dep P E} (hb0 : b ≠ 0) (ha : a.natAbs < 2 ^ 250) (hb : b.natAbs < 2 ^ 250) (q : P (lowD a b) st) : wp P E u (Gk02.m_l_low [.int a, .int b] st) := by
  unfold Gk02.m_l_low
  simp only [↓w_ok, ↓w_exc, ↓w_bad, ↓w_bnd, ↓w_ret, ↓w_badm, ↓w_lift, ↓o_some, ↓o_none, ↓o_map, ↓o_ite, ↓c_true, ↓b_true, ↓b_false, ↓f_nx, ↓f_rt, ↓f_bk, ↓f_ct, ↓f_ex, ↓w_var, ↓w_c, ↓w_c2, ↓w_c1, ↓w_cN, ↓w_nil, ↓w_cons, ↓w_tup, ↓w_lst, ↓w_frz, ↓w_own, ↓w_call, ↓w_no, ↓w_part, ↓w_sl, ↓w_tB, ↓w_tAnd, ↓w_tOr, ↓w_tNot, ↓w_tYes, ↓w_vAnd, ↓w_vOr, ↓w_vNot, ↓w_if, ↓w_pNil, ↓w_pCons, ↓w_dict, ↓w_lc, ↓w_iSeq, ↓w_iRng, ↓w_next, ↓w_seq, ↓w_do, ↓w_sret, ↓w_sretN, ↓w_drop, ↓w_sif, ↓w_brk, ↓w_cnt, ↓w_asg, ↓w_nm, ↓w_gnil, ↓w_gcons, ↓w_gseq, ↓w_gsub, ↓w_par, ↓w_for, ↓w_dput, ↓w_app, ↓l_nx, ↓l_ct, ↓l_bk, ↓l_rt, ↓l_ex, ↓w_loop0, ↓w_run1, ↓w_run2, ↓w_run3, ↓e_rt, ↓e_nx, ↓e_ex, e_rt, e_nx, e_ex, l_nx, l_ct, l_bk, l_rt, l_ex, k_add, k_sub, k_mul, k_div, k_mod, k_pow, k_neg, k_cmp, k_eqi, k_nei, k_divmod, k_gcd, k_abs, i_tup, i_lst, i_ro, lo_lst, st_lst, st_ro, st_tup, o_some, o_none, o_map, o_ite, c_true, b_true, b_false, f_nx, f_rt, f_bk, f_ct, f_ex, boolD_bl, intD_int, two_two, w_ok, bx_turn, bx_cells, bx_put, bx_lenc, bx_ix, bx_sub, List.getElem?_cons_zero, List.getElem?_cons_succ, List.getElem?_nil, List.set_cons_zero, List.set_cons_succ, List.map_cons, List.map_nil, List.replicate_succ, List.replicate_zero, List.cons_append, List.nil_append, List.length_cons, List.length_nil, szl, isa_int_non, isa_int_bl, isa_int_int, isa_int_str, isa_int_tup, isa_int_lst, isa_int_ro, isa_bool_non, isa_bool_bl, isa_bool_int, isa_bool_str, isa_bool_tup, isa_bool_lst, isa_bool_ro, isa_tuple_non, isa_tuple_bl, isa_tuple_int, isa_tuple_str, isa_tuple_tup, isa_tuple_lst, isa_tuple_ro, isa_list_non, isa_list_bl, isa_list_int, isa_list_str, isa_list_tup, isa_list_lst, isa_list_ro, isa_str_non, isa_str_bl, isa_str_int, isa_str_str, isa_str_tup, isa_str_lst, isa_str_ro, isl_non, isl_bl, isl_int, isl_str, isl_tup, isl_lst, isl_ro, Nat.zero_add, Nat.reduceAdd, Nat.reduceSub, Nat.reduceLeDiff, Nat.reduceLT, Nat.reducePow, Int.reduceNeg, decide_true, decide_false, Bool.not_true, Bool.not_false, Int.reduceToNat, Int.reducePow, Int.reduceAdd, Int.reduceSub, Int.reduceMul, nco, eq_self, Int.reduceEq, Int.reduceLT, Int.reduceLE, w_run1, w_run2, w_run3, fl_tup, fl_lst, ix_tup0, ix_tup1, Bool.false_eq_true, reduceCtorEq, ↓w_comp0, ↓w_comp1, wipe0, wipe1, fall_lst, bools0, bools1, Option.map_some, List.all_cons, List.all_nil, id, Bool.and_true, Bool.and_false, Bool.true_and, Bool.false_and, ↓t_rt, ↓t_nx, t_rt, t_nx]
  refine wo_i (rngD1 ⟨by decide, by decide⟩) ?_
  have e1 : ∀ z : Int, (if z < 0 then -z else z) = (z.natAbs : Int) := fun z => by split <;> omega
  rw [e1, e1]
  exact low_loop ha hb q 250 _ _ _ _ _ (by show 501 ≤ _; simp [upTo]) hb (by omega) ha hb rfl
end
end PV
end

section
namespace PV
open PySem L2
structure BxOk (cs : List Int) (t : Int) (N : Nat) : Prop where
  ne : cs ≠ []
  le : cs.length ≤ 63
  lo : 0 ≤ t
  hi : t ≤ N
theorem BxOk.up {cs : List Int} {t : Int} {N N' : Nat} (h : BxOk cs t N) (hn : N ≤ N') : BxOk cs t N' := ⟨h.ne, h.le, h.lo, by have := h.hi; omega⟩
theorem take_ {e : Bool} {cs : List Int} {t : Int} {r : Sto} {sz : Int} {N : Nat} {P : D → Sto → Prop} {E : Exn → Sto → Prop} {u : Dep P E} (h : BxOk cs t N) (hN : N ≤ 1000000) (hs : 0 < sz) (hs2 : sz ≤ 1000000000000000000)
    (q : ∀ g cs' t', BxOk cs' t' (N + 1) → 0 ≤ g → g < sz → P (.int g) (bx e cs' t' ++ r)) :
    wp P E u (Gk02.m_l_take [.ref (bB e), .int sz] (bx e cs t ++ r)) :=
  wp_take h.ne h.le h.lo h.hi hN hs hs2 fun g cs' t' a b c d => q g cs' t' ⟨a, b, c, d⟩
end PV
namespace PV
open PySem L2
section
variable {P : D → Sto → Prop} {E : Exn → Sto → Prop} {u : Dep P E}
theorem dat_ints {st : Sto} {n : Nat} {ns : List Int} (h : st[n]? = some (.lst (ns.map .int))) : dat st (.ref n) = some (.list (ns.map .int)) := by
  have h1 : ∀ (k : Nat) (ms : List Int), toPs st k (ms.map .int) = some (ms.map .int) := by
    intro k ms
    induction ms with
    | nil => simp [toPs]
    | cons m ms ih => simp only [List.map_cons, toPs, toP, ih]
  have h2 : ∀ ms : List Int, PyData.canLayAll0 (ms.map .int) = true ∧ PyData.depthAll (ms.map .int) = 0 := by
    intro ms
    induction ms with
    | nil => simp [PyData.canLayAll0, PyData.depthAll]
    | cons m ms ih => simp [PyData.canLayAll0, PyData.depthAll, PyData.canLay0, PyData.depth, ih.1, ih.2]
  unfold dat
  simp only [toP, h, h1, Option.map]
  simp [SeqAt.shaped, PyData.canLay0, PyData.depth, (h2 ns).1, (h2 ns).2]
theorem wp_begin {ns : List Int} (hn : ns.length ≤ 63) (q : ∀ e cs, BxOk cs 0 0 → P (.ref (bB e)) (bx e cs 0)) : wp P E u (Gk02.m_l_begin [.ro (ns.map .int)] []) := by
  unfold Gk02.m_l_begin
  have hc : cutD (ns.map D.int) none (some 63) = ns.map D.int := by
    unfold cutD
    simp only [HT.sIx, List.length_map]
    rw [if_neg (by decide), Nat.sub_zero, List.drop_zero, List.take_of_length_le (by simp; omega)]
  have hsl : dSl [] (.ro (ns.map D.int)) none (some 63) = some (.lst (ns.map D.int)) := by
    show (some (ns.map D.int)).map (fun ds => D.lst (cutD ds none (some 63))) = _
    rw [Option.map_some, hc]
  have hlst : fList [] [.lst (ns.map D.int)] = some (ns.map D.int) := rfl
  have hd := dat_ints (st := [.lst (ns.map .int)]) (n := 0) (ns := ns) rfl
  have he : dEq [.lst (ns.map .int)] (.ref 0) (.lst []) = some (.bl (decide (ns = []))) := by
    unfold dEq
    rw [hd]
    cases ns with
    | nil => simp [dat, toP, toPs, SeqAt.shaped, PyData.canLay0, PyData.canLayAll0, PyData.depth, PyData.depthAll, PyData.eqv, PyData.eqvAll]
    | cons n ns => simp [dat, toP, toPs, SeqAt.shaped, PyData.canLay0, PyData.canLayAll0, PyData.depth, PyData.depthAll, PyData.eqv, PyData.eqvAll]
  simp only [↓w_ok, ↓w_exc, ↓w_bad, ↓w_bnd, ↓w_ret, ↓w_badm, ↓w_lift, ↓o_some, ↓o_none, ↓o_map, ↓o_ite, ↓c_true, ↓b_true, ↓b_false, ↓f_nx, ↓f_rt, ↓f_bk, ↓f_ct, ↓f_ex, ↓w_var, ↓w_c, ↓w_c2, ↓w_c1, ↓w_cN, ↓w_nil, ↓w_cons, ↓w_tup, ↓w_lst, ↓w_frz, ↓w_own, ↓w_call, ↓w_no, ↓w_part, ↓w_sl, ↓w_tB, ↓w_tAnd, ↓w_tOr, ↓w_tNot, ↓w_tYes, ↓w_vAnd, ↓w_vOr, ↓w_vNot, ↓w_if, ↓w_pNil, ↓w_pCons, ↓w_dict, ↓w_lc, ↓w_iSeq, ↓w_iRng, ↓w_next, ↓w_seq, ↓w_do, ↓w_sret, ↓w_sretN, ↓w_drop, ↓w_sif, ↓w_brk, ↓w_cnt, ↓w_asg, ↓w_nm, ↓w_gnil, ↓w_gcons, ↓w_gseq, ↓w_gsub, ↓w_par, ↓w_for, ↓w_dput, ↓w_app, ↓l_nx, ↓l_ct, ↓l_bk, ↓l_rt, ↓l_ex, ↓w_loop0, ↓w_run1, ↓w_run2, ↓w_run3, ↓e_rt, ↓e_nx, ↓e_ex, e_rt, e_nx, e_ex, l_nx, l_ct, l_bk, l_rt, l_ex, k_add, k_sub, k_mul, k_div, k_mod, k_pow, k_neg, k_cmp, k_eqi, k_nei, k_divmod, k_gcd, k_abs, i_tup, i_lst, i_ro, lo_lst, st_lst, st_ro, st_tup, o_some, o_none, o_map, o_ite, c_true, b_true, b_false, f_nx, f_rt, f_bk, f_ct, f_ex, boolD_bl, intD_int, two_two, w_ok, bx_turn, bx_cells, bx_put, bx_lenc, bx_ix, bx_sub, List.getElem?_cons_zero, List.getElem?_cons_succ, List.getElem?_nil, List.set_cons_zero, List.set_cons_succ, List.map_cons, List.map_nil, List.replicate_succ, List.replicate_zero, List.cons_append, List.nil_append, List.length_cons, List.length_nil, szl, isa_int_non, isa_int_bl, isa_int_int, isa_int_str, isa_int_tup, isa_int_lst, isa_int_ro, isa_bool_non, isa_bool_bl, isa_bool_int, isa_bool_str, isa_bool_tup, isa_bool_lst, isa_bool_ro, isa_tuple_non, isa_tuple_bl, isa_tuple_int, isa_tuple_str, isa_tuple_tup, isa_tuple_lst, isa_tuple_ro, isa_list_non, isa_list_bl, isa_list_int, isa_list_str, isa_list_tup, isa_list_lst, isa_list_ro, isa_str_non, isa_str_bl, isa_str_int, isa_str_str, isa_str_tup, isa_str_lst, isa_str_ro, isl_non, isl_bl, isl_int, isl_str, isl_tup, isl_lst, isl_ro, Nat.zero_add, Nat.reduceAdd, Nat.reduceSub, Nat.reduceLeDiff, Nat.reduceLT, Nat.reducePow, Int.reduceNeg, decide_true, decide_false, Bool.not_true, Bool.not_false, Int.reduceToNat, Int.reducePow, Int.reduceAdd, Int.reduceSub, Int.reduceMul, nco, eq_self, Int.reduceEq, Int.reduceLT, Int.reduceLE, w_run1, w_run2, w_run3, fl_tup, fl_lst, ix_tup0, ix_tup1, Bool.false_eq_true, reduceCtorEq, ↓w_comp0, ↓w_comp1, wipe0, wipe1, fall_lst, bools0, bools1, Option.map_some, List.all_cons, List.all_nil, id, Bool.and_true, Bool.and_false, Bool.true_and, Bool.false_and, ↓t_rt, ↓t_nx, t_rt, t_nx, hsl, hlst, he]
  refine wb_i (fun hb => ?_) (fun hb => ?_)
  · simp only [↓w_ok, ↓w_exc, ↓w_bad, ↓w_bnd, ↓w_ret, ↓w_badm, ↓w_lift, ↓o_some, ↓o_none, ↓o_map, ↓o_ite, ↓c_true, ↓b_true, ↓b_false, ↓f_nx, ↓f_rt, ↓f_bk, ↓f_ct, ↓f_ex, ↓w_var, ↓w_c, ↓w_c2, ↓w_c1, ↓w_cN, ↓w_nil, ↓w_cons, ↓w_tup, ↓w_lst, ↓w_frz, ↓w_own, ↓w_call, ↓w_no, ↓w_part, ↓w_sl, ↓w_tB, ↓w_tAnd, ↓w_tOr, ↓w_tNot, ↓w_tYes, ↓w_vAnd, ↓w_vOr, ↓w_vNot, ↓w_if, ↓w_pNil, ↓w_pCons, ↓w_dict, ↓w_lc, ↓w_iSeq, ↓w_iRng, ↓w_next, ↓w_seq, ↓w_do, ↓w_sret, ↓w_sretN, ↓w_drop, ↓w_sif, ↓w_brk, ↓w_cnt, ↓w_asg, ↓w_nm, ↓w_gnil, ↓w_gcons, ↓w_gseq, ↓w_gsub, ↓w_par, ↓w_for, ↓w_dput, ↓w_app, ↓l_nx, ↓l_ct, ↓l_bk, ↓l_rt, ↓l_ex, ↓w_loop0, ↓w_run1, ↓w_run2, ↓w_run3, ↓e_rt, ↓e_nx, ↓e_ex, e_rt, e_nx, e_ex, l_nx, l_ct, l_bk, l_rt, l_ex, k_add, k_sub, k_mul, k_div, k_mod, k_pow, k_neg, k_cmp, k_eqi, k_nei, k_divmod, k_gcd, k_abs, i_tup, i_lst, i_ro, lo_lst, st_lst, st_ro, st_tup, o_some, o_none, o_map, o_ite, c_true, b_true, b_false, f_nx, f_rt, f_bk, f_ct, f_ex, boolD_bl, intD_int, two_two, w_ok, bx_turn, bx_cells, bx_put, bx_lenc, bx_ix, bx_sub, List.getElem?_cons_zero, List.getElem?_cons_succ, List.getElem?_nil, List.set_cons_zero, List.set_cons_succ, List.map_cons, List.map_nil, List.replicate_succ, List.replicate_zero, List.cons_append, List.nil_append, List.length_cons, List.length_nil, szl, isa_int_non, isa_int_bl, isa_int_int, isa_int_str, isa_int_tup, isa_int_lst, isa_int_ro, isa_bool_non, isa_bool_bl, isa_bool_int, isa_bool_str, isa_bool_tup, isa_bool_lst, isa_bool_ro, isa_tuple_non, isa_tuple_bl, isa_tuple_int, isa_tuple_str, isa_tuple_tup, isa_tuple_lst, isa_tuple_ro, isa_list_non, isa_list_bl, isa_list_int, isa_list_str, isa_list_tup, isa_list_lst, isa_list_ro, isa_str_non, isa_str_bl, isa_str_int, isa_str_str, isa_str_tup, isa_str_lst, isa_str_ro, isl_non, isl_bl, isl_int, isl_str, isl_tup, isl_lst, isl_ro, Nat.zero_add, Nat.reduceAdd, Nat.reduceSub, Nat.reduceLeDiff, Nat.reduceLT, Nat.reducePow, Int.reduceNeg, decide_true, decide_false, Bool.not_true, Bool.not_false, Int.reduceToNat, Int.reducePow, Int.reduceAdd, Int.reduceSub, Int.reduceMul, nco, eq_self, Int.reduceEq, Int.reduceLT, Int.reduceLE, w_run1, w_run2, w_run3, fl_tup, fl_lst, ix_tup0, ix_tup1, Bool.false_eq_true, reduceCtorEq, ↓w_comp0, ↓w_comp1, wipe0, wipe1, fall_lst, bools0, bools1, Option.map_some, List.all_cons, List.all_nil, id, Bool.and_true, Bool.and_false, Bool.true_and, Bool.false_and, ↓t_rt, ↓t_nx, t_rt, t_nx]
    have hb := of_decide_eq_true hb
    subst hb
    refine wo_i rfl (wc_i (by decide) ?_)
    exact q true [17] ⟨by decide, by decide, by decide, by decide⟩
  · simp only [↓w_ok, ↓w_exc, ↓w_bad, ↓w_bnd, ↓w_ret, ↓w_badm, ↓w_lift, ↓o_some, ↓o_none, ↓o_map, ↓o_ite, ↓c_true, ↓b_true, ↓b_false, ↓f_nx, ↓f_rt, ↓f_bk, ↓f_ct, ↓f_ex, ↓w_var, ↓w_c, ↓w_c2, ↓w_c1, ↓w_cN, ↓w_nil, ↓w_cons, ↓w_tup, ↓w_lst, ↓w_frz, ↓w_own, ↓w_call, ↓w_no, ↓w_part, ↓w_sl, ↓w_tB, ↓w_tAnd, ↓w_tOr, ↓w_tNot, ↓w_tYes, ↓w_vAnd, ↓w_vOr, ↓w_vNot, ↓w_if, ↓w_pNil, ↓w_pCons, ↓w_dict, ↓w_lc, ↓w_iSeq, ↓w_iRng, ↓w_next, ↓w_seq, ↓w_do, ↓w_sret, ↓w_sretN, ↓w_drop, ↓w_sif, ↓w_brk, ↓w_cnt, ↓w_asg, ↓w_nm, ↓w_gnil, ↓w_gcons, ↓w_gseq, ↓w_gsub, ↓w_par, ↓w_for, ↓w_dput, ↓w_app, ↓l_nx, ↓l_ct, ↓l_bk, ↓l_rt, ↓l_ex, ↓w_loop0, ↓w_run1, ↓w_run2, ↓w_run3, ↓e_rt, ↓e_nx, ↓e_ex, e_rt, e_nx, e_ex, l_nx, l_ct, l_bk, l_rt, l_ex, k_add, k_sub, k_mul, k_div, k_mod, k_pow, k_neg, k_cmp, k_eqi, k_nei, k_divmod, k_gcd, k_abs, i_tup, i_lst, i_ro, lo_lst, st_lst, st_ro, st_tup, o_some, o_none, o_map, o_ite, c_true, b_true, b_false, f_nx, f_rt, f_bk, f_ct, f_ex, boolD_bl, intD_int, two_two, w_ok, bx_turn, bx_cells, bx_put, bx_lenc, bx_ix, bx_sub, List.getElem?_cons_zero, List.getElem?_cons_succ, List.getElem?_nil, List.set_cons_zero, List.set_cons_succ, List.map_cons, List.map_nil, List.replicate_succ, List.replicate_zero, List.cons_append, List.nil_append, List.length_cons, List.length_nil, szl, isa_int_non, isa_int_bl, isa_int_int, isa_int_str, isa_int_tup, isa_int_lst, isa_int_ro, isa_bool_non, isa_bool_bl, isa_bool_int, isa_bool_str, isa_bool_tup, isa_bool_lst, isa_bool_ro, isa_tuple_non, isa_tuple_bl, isa_tuple_int, isa_tuple_str, isa_tuple_tup, isa_tuple_lst, isa_tuple_ro, isa_list_non, isa_list_bl, isa_list_int, isa_list_str, isa_list_tup, isa_list_lst, isa_list_ro, isa_str_non, isa_str_bl, isa_str_int, isa_str_str, isa_str_tup, isa_str_lst, isa_str_ro, isl_non, isl_bl, isl_int, isl_str, isl_tup, isl_lst, isl_ro, Nat.zero_add, Nat.reduceAdd, Nat.reduceSub, Nat.reduceLeDiff, Nat.reduceLT, Nat.reducePow, Int.reduceNeg, decide_true, decide_false, Bool.not_true, Bool.not_false, Int.reduceToNat, Int.reducePow, Int.reduceAdd, Int.reduceSub, Int.reduceMul, nco, eq_self, Int.reduceEq, Int.reduceLT, Int.reduceLE, w_run1, w_run2, w_run3, fl_tup, fl_lst, ix_tup0, ix_tup1, Bool.false_eq_true, reduceCtorEq, ↓w_comp0, ↓w_comp1, wipe0, wipe1, fall_lst, bools0, bools1, Option.map_some, List.all_cons, List.all_nil, id, Bool.and_true, Bool.and_false, Bool.true_and, Bool.false_and, ↓t_rt, ↓t_nx, t_rt, t_nx]
    have hb := of_decide_eq_false hb
    refine wo_i rfl (wc_i (by decide) ?_)
    exact q false ns ⟨hb, hn, by decide, by decide⟩
end
end PV
end

section
namespace PV
open PySem L2
section
variable {st : Sto} {a b : Int} {xs : List D} {b1 : Bool} {s : Str}
theorem kz_int : fInt st [.bl b1] = some (.int (if b1 then 1 else 0)) := rfl
theorem kz_div : dDivZ st (.int a) (.int b) = if CDivZ a b then some (.int (a.fdiv b)) else none := rfl
theorem kz_isn0 : dIsN st (.int a) .non = some (.bl false) := rfl
theorem kz_isn1 : dIsN st (.tup xs) .non = some (.bl false) := rfl
theorem kz_isn2 : dIsN st (.lst xs) .non = some (.bl false) := rfl
theorem kz_isn3 : dIsN st .non .non = some (.bl true) := rfl
theorem kz_isl1 : dIsaL ["list", "tuple"] st (.int a) = some (.bl false) := rfl
theorem kz_isl2 : dIsaL ["list", "tuple"] st (.tup xs) = some (.bl true) := rfl
theorem kz_isl3 : dIsaL ["list", "tuple"] st (.lst xs) = some (.bl true) := rfl
theorem kz_isb1 : dIsaL ["bool", "str"] st (.int a) = some (.bl false) := rfl
theorem gfl_lst : fList st [.tup xs] = some xs := rfl
theorem w_raise0 {R : Fl → Sto → Prop} {E : Exn → Sto → Prop} {v : Dep R E} {x : Str} {nv : Nv} : wp R E v (sRaise0 x nv st) = R (.ex ⟨x, none⟩ nv) st := rfl
/-- a pair, as a tuple or as a list -/
def fr (k : Bool) (a b : Int) : D := match k with
  | true => .tup [.int a, .int b]
  | false => .lst [.int a, .int b]
theorem fr_t : fr true a b = .tup [.int a, .int b] := rfl
theorem fr_l : fr false a b = .lst [.int a, .int b] := rfl
def NP : Exn := ⟨"NoParts", none⟩
theorem nat_lt (n : Int) {k : Nat} (h : n.natAbs < 2 ^ k) (hk : 2 ^ k ≤ 2 ^ 250 := by decide) : n.natAbs < 2 ^ 250 := Nat.lt_of_lt_of_le h hk
theorem mul_lt {a b : Int} (ha : a.natAbs < 2 ^ 100) (hb : b.natAbs < 2 ^ 100) : (a * b).natAbs < 2 ^ 200 := by
  rw [Int.natAbs_mul]
  exact Nat.lt_of_lt_of_le (Nat.mul_lt_mul'' ha hb) (by decide)
theorem add_lt {a b : Int} (ha : a.natAbs < 2 ^ 200) (hb : b.natAbs < 2 ^ 200) : (a + b).natAbs < 2 ^ 250 ∧ (a - b).natAbs < 2 ^ 250 := by
  have e : (2 : Nat) ^ 200 + 2 ^ 200 ≤ 2 ^ 250 := by decide
  constructor <;> omega
theorem fdz {a g : Int} (hg : g ≠ 0) (d : g ∣ a) : a.fdiv g = a / g := by
  obtain ⟨k, rfl⟩ := d
  rw [Int.mul_fdiv_cancel_left _ hg, Int.mul_ediv_cancel_left _ hg]
theorem fdiv_low {a b : Int} (hb : b ≠ 0) (d : (Nat.gcd a.natAbs b.natAbs : Int) ∣ a) : (if b < 0 then a.fdiv (-(Nat.gcd a.natAbs b.natAbs : Nat) : Int) else a.fdiv (Nat.gcd a.natAbs b.natAbs : Nat)) = sg b * a / (Nat.gcd a.natAbs b.natAbs : Nat) := by
  unfold sg
  by_cases h : 0 < b
  · rw [if_neg (by omega), if_pos h, Int.one_mul, Int.fdiv_eq_ediv_of_nonneg a (by omega)]
  · have hg : ((Nat.gcd a.natAbs b.natAbs : Nat) : Int) ≠ 0 := by
      have := Nat.gcd_pos_of_pos_right a.natAbs (show 0 < b.natAbs by omega)
      omega
    rw [if_pos (by omega), if_neg h, Int.neg_mul, Int.one_mul, Int.neg_ediv_of_dvd d]
    rw [fdz (by omega) (Int.neg_dvd.mpr d), Int.ediv_neg]
variable {P : D → Sto → Prop} {E : Exn → Sto → Prop} {u : Dep P E}
theorem wp_lowest (hb0 : b ≠ 0) (ha : a.natAbs < 2 ^ 250) (hb : b.natAbs < 2 ^ 250) (q : P (lowD a b) st) : wp P E u (Gk02.m_lowest [.int a, .int b] st) := by
  unfold Gk02.m_lowest
  have hg : 0 < Nat.gcd a.natAbs b.natAbs := Nat.gcd_pos_of_pos_right _ (by omega)
  have hgl : Nat.gcd a.natAbs b.natAbs ≤ b.natAbs := Nat.le_of_dvd (by omega) (Nat.gcd_dvd_right _ _)
  have d1 : ((Nat.gcd a.natAbs b.natAbs : Nat) : Int) ∣ a := Int.ofNat_dvd_left.mpr (Nat.gcd_dvd_left _ _)
  have d2 : ((Nat.gcd a.natAbs b.natAbs : Nat) : Int) ∣ b := Int.ofNat_dvd_left.mpr (Nat.gcd_dvd_right _ _)
  have f1 := fdiv_low hb0 d1
  have hlog : ∀ n : Nat, n ≤ b.natAbs → n.log2 < 9000 := fun n h => by
    by_cases h0 : n = 0
    · rw [h0]; decide
    · have := (Nat.log2_lt (k := 250) h0).mpr (by omega); omega
  have f2 : (if b < 0 then b.fdiv (-(Nat.gcd a.natAbs b.natAbs : Nat) : Int) else b.fdiv (Nat.gcd a.natAbs b.natAbs : Nat)) = sg b * b / (Nat.gcd a.natAbs b.natAbs : Nat) := by
    unfold sg
    by_cases h : 0 < b
    · rw [if_neg (by omega), if_pos h, Int.one_mul, Int.fdiv_eq_ediv_of_nonneg b (by omega)]
    · rw [if_pos (by omega), if_neg h, Int.neg_mul, Int.one_mul, Int.neg_ediv_of_dvd d2]
      rw [fdz (by omega) (Int.neg_dvd.mpr d2), Int.ediv_neg]
  unfold lowD at q
  rw [← f1, ← f2] at q
  (try simp only [↓w_ok, ↓w_exc, ↓w_bad, ↓w_bnd, ↓w_ret, ↓w_badm, ↓w_lift, ↓o_some, ↓o_none, ↓o_map, ↓o_ite, ↓c_true, ↓b_true, ↓b_false, ↓f_nx, ↓f_rt, ↓f_bk, ↓f_ct, ↓f_ex, ↓w_var, ↓w_c, ↓w_c2, ↓w_c1, ↓w_cN, ↓w_nil, ↓w_cons, ↓w_tup, ↓w_lst, ↓w_frz, ↓w_own, ↓w_call, ↓w_no, ↓w_part, ↓w_sl, ↓w_tB, ↓w_tAnd, ↓w_tOr, ↓w_tNot, ↓w_tYes, ↓w_vAnd, ↓w_vOr, ↓w_vNot, ↓w_if, ↓w_pNil, ↓w_pCons, ↓w_dict, ↓w_lc, ↓w_iSeq, ↓w_iRng, ↓w_next, ↓w_seq, ↓w_do, ↓w_sret, ↓w_sretN, ↓w_drop, ↓w_sif, ↓w_brk, ↓w_cnt, ↓w_asg, ↓w_nm, ↓w_gnil, ↓w_gcons, ↓w_gseq, ↓w_gsub, ↓w_par, ↓w_for, ↓w_dput, ↓w_app, ↓l_nx, ↓l_ct, ↓l_bk, ↓l_rt, ↓l_ex, ↓w_loop0, ↓w_run1, ↓w_run2, ↓w_run3, ↓e_rt, ↓e_nx, ↓e_ex, e_rt, e_nx, e_ex, l_nx, l_ct, l_bk, l_rt, l_ex, k_add, k_sub, k_mul, k_div, k_mod, k_pow, k_neg, k_cmp, k_eqi, k_nei, k_divmod, k_gcd, k_abs, i_tup, i_lst, i_ro, lo_lst, st_lst, st_ro, st_tup, o_some, o_none, o_map, o_ite, c_true, b_true, b_false, f_nx, f_rt, f_bk, f_ct, f_ex, boolD_bl, intD_int, two_two, w_ok, bx_turn, bx_cells, bx_put, bx_lenc, bx_ix, bx_sub, List.getElem?_cons_zero, List.getElem?_cons_succ, List.getElem?_nil, List.set_cons_zero, List.set_cons_succ, List.map_cons, List.map_nil, List.replicate_succ, List.replicate_zero, List.cons_append, List.nil_append, List.length_cons, List.length_nil, szl, isa_int_non, isa_int_bl, isa_int_int, isa_int_str, isa_int_tup, isa_int_lst, isa_int_ro, isa_bool_non, isa_bool_bl, isa_bool_int, isa_bool_str, isa_bool_tup, isa_bool_lst, isa_bool_ro, isa_tuple_non, isa_tuple_bl, isa_tuple_int, isa_tuple_str, isa_tuple_tup, isa_tuple_lst, isa_tuple_ro, isa_list_non, isa_list_bl, isa_list_int, isa_list_str, isa_list_tup, isa_list_lst, isa_list_ro, isa_str_non, isa_str_bl, isa_str_int, isa_str_str, isa_str_tup, isa_str_lst, isa_str_ro, isl_non, isl_bl, isl_int, isl_str, isl_tup, isl_lst, isl_ro, Nat.zero_add, Nat.reduceAdd, Nat.reduceSub, Nat.reduceLeDiff, Nat.reduceLT, Nat.reducePow, Int.reduceNeg, decide_true, decide_false, Bool.not_true, Bool.not_false, Int.reduceToNat, Int.reducePow, Int.reduceAdd, Int.reduceSub, Int.reduceMul, nco, eq_self, Int.reduceEq, Int.reduceLT, Int.reduceLE, w_run1, w_run2, w_run3, fl_tup, fl_lst, ix_tup0, ix_tup1, Bool.false_eq_true, reduceCtorEq, ↓w_comp0, ↓w_comp1, wipe0, wipe1, fall_lst, bools0, bools1, Option.map_some, List.all_cons, List.all_nil, id, Bool.and_true, Bool.and_false, Bool.true_and, Bool.false_and, ↓t_rt, ↓t_nx, t_rt, t_nx, kz_int, kz_div, kz_isn0, kz_isn1, kz_isn2, kz_isn3, w_raise0, kz_isl1, kz_isl2, kz_isl3, kz_isb1, fr_t, fr_l, gfl_lst])
  refine wb_i (fun h => absurd (of_decide_eq_true h) hb0) (fun h => ?_)
  (try simp only [↓w_ok, ↓w_exc, ↓w_bad, ↓w_bnd, ↓w_ret, ↓w_badm, ↓w_lift, ↓o_some, ↓o_none, ↓o_map, ↓o_ite, ↓c_true, ↓b_true, ↓b_false, ↓f_nx, ↓f_rt, ↓f_bk, ↓f_ct, ↓f_ex, ↓w_var, ↓w_c, ↓w_c2, ↓w_c1, ↓w_cN, ↓w_nil, ↓w_cons, ↓w_tup, ↓w_lst, ↓w_frz, ↓w_own, ↓w_call, ↓w_no, ↓w_part, ↓w_sl, ↓w_tB, ↓w_tAnd, ↓w_tOr, ↓w_tNot, ↓w_tYes, ↓w_vAnd, ↓w_vOr, ↓w_vNot, ↓w_if, ↓w_pNil, ↓w_pCons, ↓w_dict, ↓w_lc, ↓w_iSeq, ↓w_iRng, ↓w_next, ↓w_seq, ↓w_do, ↓w_sret, ↓w_sretN, ↓w_drop, ↓w_sif, ↓w_brk, ↓w_cnt, ↓w_asg, ↓w_nm, ↓w_gnil, ↓w_gcons, ↓w_gseq, ↓w_gsub, ↓w_par, ↓w_for, ↓w_dput, ↓w_app, ↓l_nx, ↓l_ct, ↓l_bk, ↓l_rt, ↓l_ex, ↓w_loop0, ↓w_run1, ↓w_run2, ↓w_run3, ↓e_rt, ↓e_nx, ↓e_ex, e_rt, e_nx, e_ex, l_nx, l_ct, l_bk, l_rt, l_ex, k_add, k_sub, k_mul, k_div, k_mod, k_pow, k_neg, k_cmp, k_eqi, k_nei, k_divmod, k_gcd, k_abs, i_tup, i_lst, i_ro, lo_lst, st_lst, st_ro, st_tup, o_some, o_none, o_map, o_ite, c_true, b_true, b_false, f_nx, f_rt, f_bk, f_ct, f_ex, boolD_bl, intD_int, two_two, w_ok, bx_turn, bx_cells, bx_put, bx_lenc, bx_ix, bx_sub, List.getElem?_cons_zero, List.getElem?_cons_succ, List.getElem?_nil, List.set_cons_zero, List.set_cons_succ, List.map_cons, List.map_nil, List.replicate_succ, List.replicate_zero, List.cons_append, List.nil_append, List.length_cons, List.length_nil, szl, isa_int_non, isa_int_bl, isa_int_int, isa_int_str, isa_int_tup, isa_int_lst, isa_int_ro, isa_bool_non, isa_bool_bl, isa_bool_int, isa_bool_str, isa_bool_tup, isa_bool_lst, isa_bool_ro, isa_tuple_non, isa_tuple_bl, isa_tuple_int, isa_tuple_str, isa_tuple_tup, isa_tuple_lst, isa_tuple_ro, isa_list_non, isa_list_bl, isa_list_int, isa_list_str, isa_list_tup, isa_list_lst, isa_list_ro, isa_str_non, isa_str_bl, isa_str_int, isa_str_str, isa_str_tup, isa_str_lst, isa_str_ro, isl_non, isl_bl, isl_int, isl_str, isl_tup, isl_lst, isl_ro, Nat.zero_add, Nat.reduceAdd, Nat.reduceSub, Nat.reduceLeDiff, Nat.reduceLT, Nat.reducePow, Int.reduceNeg, decide_true, decide_false, Bool.not_true, Bool.not_false, Int.reduceToNat, Int.reducePow, Int.reduceAdd, Int.reduceSub, Int.reduceMul, nco, eq_self, Int.reduceEq, Int.reduceLT, Int.reduceLE, w_run1, w_run2, w_run3, fl_tup, fl_lst, ix_tup0, ix_tup1, Bool.false_eq_true, reduceCtorEq, ↓w_comp0, ↓w_comp1, wipe0, wipe1, fall_lst, bools0, bools1, Option.map_some, List.all_cons, List.all_nil, id, Bool.and_true, Bool.and_false, Bool.true_and, Bool.false_and, ↓t_rt, ↓t_nx, t_rt, t_nx, kz_int, kz_div, kz_isn0, kz_isn1, kz_isn2, kz_isn3, w_raise0, kz_isl1, kz_isl2, kz_isl3, kz_isb1, fr_t, fr_l, gfl_lst])
  refine wb_i (fun h => ?_) (fun h => ?_)
  · have h := of_decide_eq_true h
    rw [if_pos h, if_pos h] at q
    have c : ∀ x : Int, CDivZ x (-((Nat.gcd a.natAbs b.natAbs : Nat) : Int)) = True := fun x => eq_true ⟨by omega, by rw [show (-((Nat.gcd a.natAbs b.natAbs : Nat) : Int)).natAbs = Nat.gcd a.natAbs b.natAbs by omega]; exact hlog _ hgl⟩
    (try simp only [↓w_ok, ↓w_exc, ↓w_bad, ↓w_bnd, ↓w_ret, ↓w_badm, ↓w_lift, ↓o_some, ↓o_none, ↓o_map, ↓o_ite, ↓c_true, ↓b_true, ↓b_false, ↓f_nx, ↓f_rt, ↓f_bk, ↓f_ct, ↓f_ex, ↓w_var, ↓w_c, ↓w_c2, ↓w_c1, ↓w_cN, ↓w_nil, ↓w_cons, ↓w_tup, ↓w_lst, ↓w_frz, ↓w_own, ↓w_call, ↓w_no, ↓w_part, ↓w_sl, ↓w_tB, ↓w_tAnd, ↓w_tOr, ↓w_tNot, ↓w_tYes, ↓w_vAnd, ↓w_vOr, ↓w_vNot, ↓w_if, ↓w_pNil, ↓w_pCons, ↓w_dict, ↓w_lc, ↓w_iSeq, ↓w_iRng, ↓w_next, ↓w_seq, ↓w_do, ↓w_sret, ↓w_sretN, ↓w_drop, ↓w_sif, ↓w_brk, ↓w_cnt, ↓w_asg, ↓w_nm, ↓w_gnil, ↓w_gcons, ↓w_gseq, ↓w_gsub, ↓w_par, ↓w_for, ↓w_dput, ↓w_app, ↓l_nx, ↓l_ct, ↓l_bk, ↓l_rt, ↓l_ex, ↓w_loop0, ↓w_run1, ↓w_run2, ↓w_run3, ↓e_rt, ↓e_nx, ↓e_ex, e_rt, e_nx, e_ex, l_nx, l_ct, l_bk, l_rt, l_ex, k_add, k_sub, k_mul, k_div, k_mod, k_pow, k_neg, k_cmp, k_eqi, k_nei, k_divmod, k_gcd, k_abs, i_tup, i_lst, i_ro, lo_lst, st_lst, st_ro, st_tup, o_some, o_none, o_map, o_ite, c_true, b_true, b_false, f_nx, f_rt, f_bk, f_ct, f_ex, boolD_bl, intD_int, two_two, w_ok, bx_turn, bx_cells, bx_put, bx_lenc, bx_ix, bx_sub, List.getElem?_cons_zero, List.getElem?_cons_succ, List.getElem?_nil, List.set_cons_zero, List.set_cons_succ, List.map_cons, List.map_nil, List.replicate_succ, List.replicate_zero, List.cons_append, List.nil_append, List.length_cons, List.length_nil, szl, isa_int_non, isa_int_bl, isa_int_int, isa_int_str, isa_int_tup, isa_int_lst, isa_int_ro, isa_bool_non, isa_bool_bl, isa_bool_int, isa_bool_str, isa_bool_tup, isa_bool_lst, isa_bool_ro, isa_tuple_non, isa_tuple_bl, isa_tuple_int, isa_tuple_str, isa_tuple_tup, isa_tuple_lst, isa_tuple_ro, isa_list_non, isa_list_bl, isa_list_int, isa_list_str, isa_list_tup, isa_list_lst, isa_list_ro, isa_str_non, isa_str_bl, isa_str_int, isa_str_str, isa_str_tup, isa_str_lst, isa_str_ro, isl_non, isl_bl, isl_int, isl_str, isl_tup, isl_lst, isl_ro, Nat.zero_add, Nat.reduceAdd, Nat.reduceSub, Nat.reduceLeDiff, Nat.reduceLT, Nat.reducePow, Int.reduceNeg, decide_true, decide_false, Bool.not_true, Bool.not_false, Int.reduceToNat, Int.reducePow, Int.reduceAdd, Int.reduceSub, Int.reduceMul, nco, eq_self, Int.reduceEq, Int.reduceLT, Int.reduceLE, w_run1, w_run2, w_run3, fl_tup, fl_lst, ix_tup0, ix_tup1, Bool.false_eq_true, reduceCtorEq, ↓w_comp0, ↓w_comp1, wipe0, wipe1, fall_lst, bools0, bools1, Option.map_some, List.all_cons, List.all_nil, id, Bool.and_true, Bool.and_false, Bool.true_and, Bool.false_and, ↓t_rt, ↓t_nx, t_rt, t_nx, kz_int, kz_div, kz_isn0, kz_isn1, kz_isn2, kz_isn3, w_raise0, kz_isl1, kz_isl2, kz_isl3, kz_isb1, fr_t, fr_l, gfl_lst, c])
    exact q
  · have h := of_decide_eq_false h
    rw [if_neg h, if_neg h] at q
    have c : ∀ x : Int, CDivZ x ((Nat.gcd a.natAbs b.natAbs : Nat) : Int) = True := fun x => eq_true ⟨by omega, by rw [show ((Nat.gcd a.natAbs b.natAbs : Nat) : Int).natAbs = Nat.gcd a.natAbs b.natAbs by omega]; exact hlog _ hgl⟩
    (try simp only [↓w_ok, ↓w_exc, ↓w_bad, ↓w_bnd, ↓w_ret, ↓w_badm, ↓w_lift, ↓o_some, ↓o_none, ↓o_map, ↓o_ite, ↓c_true, ↓b_true, ↓b_false, ↓f_nx, ↓f_rt, ↓f_bk, ↓f_ct, ↓f_ex, ↓w_var, ↓w_c, ↓w_c2, ↓w_c1, ↓w_cN, ↓w_nil, ↓w_cons, ↓w_tup, ↓w_lst, ↓w_frz, ↓w_own, ↓w_call, ↓w_no, ↓w_part, ↓w_sl, ↓w_tB, ↓w_tAnd, ↓w_tOr, ↓w_tNot, ↓w_tYes, ↓w_vAnd, ↓w_vOr, ↓w_vNot, ↓w_if, ↓w_pNil, ↓w_pCons, ↓w_dict, ↓w_lc, ↓w_iSeq, ↓w_iRng, ↓w_next, ↓w_seq, ↓w_do, ↓w_sret, ↓w_sretN, ↓w_drop, ↓w_sif, ↓w_brk, ↓w_cnt, ↓w_asg, ↓w_nm, ↓w_gnil, ↓w_gcons, ↓w_gseq, ↓w_gsub, ↓w_par, ↓w_for, ↓w_dput, ↓w_app, ↓l_nx, ↓l_ct, ↓l_bk, ↓l_rt, ↓l_ex, ↓w_loop0, ↓w_run1, ↓w_run2, ↓w_run3, ↓e_rt, ↓e_nx, ↓e_ex, e_rt, e_nx, e_ex, l_nx, l_ct, l_bk, l_rt, l_ex, k_add, k_sub, k_mul, k_div, k_mod, k_pow, k_neg, k_cmp, k_eqi, k_nei, k_divmod, k_gcd, k_abs, i_tup, i_lst, i_ro, lo_lst, st_lst, st_ro, st_tup, o_some, o_none, o_map, o_ite, c_true, b_true, b_false, f_nx, f_rt, f_bk, f_ct, f_ex, boolD_bl, intD_int, two_two, w_ok, bx_turn, bx_cells, bx_put, bx_lenc, bx_ix, bx_sub, List.getElem?_cons_zero, List.getElem?_cons_succ, List.getElem?_nil, List.set_cons_zero, List.set_cons_succ, List.map_cons, List.map_nil, List.replicate_succ, List.replicate_zero, List.cons_append, List.nil_append, List.length_cons, List.length_nil, szl, isa_int_non, isa_int_bl, isa_int_int, isa_int_str, isa_int_tup, isa_int_lst, isa_int_ro, isa_bool_non, isa_bool_bl, isa_bool_int, isa_bool_str, isa_bool_tup, isa_bool_lst, isa_bool_ro, isa_tuple_non, isa_tuple_bl, isa_tuple_int, isa_tuple_str, isa_tuple_tup, isa_tuple_lst, isa_tuple_ro, isa_list_non, isa_list_bl, isa_list_int, isa_list_str, isa_list_tup, isa_list_lst, isa_list_ro, isa_str_non, isa_str_bl, isa_str_int, isa_str_str, isa_str_tup, isa_str_lst, isa_str_ro, isl_non, isl_bl, isl_int, isl_str, isl_tup, isl_lst, isl_ro, Nat.zero_add, Nat.reduceAdd, Nat.reduceSub, Nat.reduceLeDiff, Nat.reduceLT, Nat.reducePow, Int.reduceNeg, decide_true, decide_false, Bool.not_true, Bool.not_false, Int.reduceToNat, Int.reducePow, Int.reduceAdd, Int.reduceSub, Int.reduceMul, nco, eq_self, Int.reduceEq, Int.reduceLT, Int.reduceLE, w_run1, w_run2, w_run3, fl_tup, fl_lst, ix_tup0, ix_tup1, Bool.false_eq_true, reduceCtorEq, ↓w_comp0, ↓w_comp1, wipe0, wipe1, fall_lst, bools0, bools1, Option.map_some, List.all_cons, List.all_nil, id, Bool.and_true, Bool.and_false, Bool.true_and, Bool.false_and, ↓t_rt, ↓t_nx, t_rt, t_nx, kz_int, kz_div, kz_isn0, kz_isn1, kz_isn2, kz_isn3, w_raise0, kz_isl1, kz_isl2, kz_isl3, kz_isb1, fr_t, fr_l, gfl_lst, c])
    exact q
theorem wp_lowest0 (q : E NP st) : wp P E u (Gk02.m_lowest [.int a, .int 0] st) := by
  unfold Gk02.m_lowest
  (try simp only [↓w_ok, ↓w_exc, ↓w_bad, ↓w_bnd, ↓w_ret, ↓w_badm, ↓w_lift, ↓o_some, ↓o_none, ↓o_map, ↓o_ite, ↓c_true, ↓b_true, ↓b_false, ↓f_nx, ↓f_rt, ↓f_bk, ↓f_ct, ↓f_ex, ↓w_var, ↓w_c, ↓w_c2, ↓w_c1, ↓w_cN, ↓w_nil, ↓w_cons, ↓w_tup, ↓w_lst, ↓w_frz, ↓w_own, ↓w_call, ↓w_no, ↓w_part, ↓w_sl, ↓w_tB, ↓w_tAnd, ↓w_tOr, ↓w_tNot, ↓w_tYes, ↓w_vAnd, ↓w_vOr, ↓w_vNot, ↓w_if, ↓w_pNil, ↓w_pCons, ↓w_dict, ↓w_lc, ↓w_iSeq, ↓w_iRng, ↓w_next, ↓w_seq, ↓w_do, ↓w_sret, ↓w_sretN, ↓w_drop, ↓w_sif, ↓w_brk, ↓w_cnt, ↓w_asg, ↓w_nm, ↓w_gnil, ↓w_gcons, ↓w_gseq, ↓w_gsub, ↓w_par, ↓w_for, ↓w_dput, ↓w_app, ↓l_nx, ↓l_ct, ↓l_bk, ↓l_rt, ↓l_ex, ↓w_loop0, ↓w_run1, ↓w_run2, ↓w_run3, ↓e_rt, ↓e_nx, ↓e_ex, e_rt, e_nx, e_ex, l_nx, l_ct, l_bk, l_rt, l_ex, k_add, k_sub, k_mul, k_div, k_mod, k_pow, k_neg, k_cmp, k_eqi, k_nei, k_divmod, k_gcd, k_abs, i_tup, i_lst, i_ro, lo_lst, st_lst, st_ro, st_tup, o_some, o_none, o_map, o_ite, c_true, b_true, b_false, f_nx, f_rt, f_bk, f_ct, f_ex, boolD_bl, intD_int, two_two, w_ok, bx_turn, bx_cells, bx_put, bx_lenc, bx_ix, bx_sub, List.getElem?_cons_zero, List.getElem?_cons_succ, List.getElem?_nil, List.set_cons_zero, List.set_cons_succ, List.map_cons, List.map_nil, List.replicate_succ, List.replicate_zero, List.cons_append, List.nil_append, List.length_cons, List.length_nil, szl, isa_int_non, isa_int_bl, isa_int_int, isa_int_str, isa_int_tup, isa_int_lst, isa_int_ro, isa_bool_non, isa_bool_bl, isa_bool_int, isa_bool_str, isa_bool_tup, isa_bool_lst, isa_bool_ro, isa_tuple_non, isa_tuple_bl, isa_tuple_int, isa_tuple_str, isa_tuple_tup, isa_tuple_lst, isa_tuple_ro, isa_list_non, isa_list_bl, isa_list_int, isa_list_str, isa_list_tup, isa_list_lst, isa_list_ro, isa_str_non, isa_str_bl, isa_str_int, isa_str_str, isa_str_tup, isa_str_lst, isa_str_ro, isl_non, isl_bl, isl_int, isl_str, isl_tup, isl_lst, isl_ro, Nat.zero_add, Nat.reduceAdd, Nat.reduceSub, Nat.reduceLeDiff, Nat.reduceLT, Nat.reducePow, Int.reduceNeg, decide_true, decide_false, Bool.not_true, Bool.not_false, Int.reduceToNat, Int.reducePow, Int.reduceAdd, Int.reduceSub, Int.reduceMul, nco, eq_self, Int.reduceEq, Int.reduceLT, Int.reduceLE, w_run1, w_run2, w_run3, fl_tup, fl_lst, ix_tup0, ix_tup1, Bool.false_eq_true, reduceCtorEq, ↓w_comp0, ↓w_comp1, wipe0, wipe1, fall_lst, bools0, bools1, Option.map_some, List.all_cons, List.all_nil, id, Bool.and_true, Bool.and_false, Bool.true_and, Bool.false_and, ↓t_rt, ↓t_nx, t_rt, t_nx, kz_int, kz_div, kz_isn0, kz_isn1, kz_isn2, kz_isn3, w_raise0, kz_isl1, kz_isl2, kz_isl3, kz_isb1, fr_t, fr_l, gfl_lst])
  exact q
variable {c d : Int} {k : Bool}
theorem wp_plus (ha : a.natAbs < 2 ^ 100) (hb : b.natAbs < 2 ^ 100) (hc : c.natAbs < 2 ^ 100) (hd : d.natAbs < 2 ^ 100) (hb0 : b ≠ 0) (hd0 : d ≠ 0) (q : P (lowD (a * d + c * b) (b * d)) st) : wp P E u (Gk02.m_plus [fr k a b, fr k c d] st) := by
  unfold Gk02.m_plus
  have m1 : CMulW a d = True := eq_true (cm_of (nat_lt a ha) (nat_lt d hd))
  have m2 : CMulW c b = True := eq_true (cm_of (nat_lt c hc) (nat_lt b hb))
  have m3 : CMulW b d = True := eq_true (cm_of (nat_lt b hb) (nat_lt d hd))
  have go : ∀ {R : D → Sto → Prop} {F : Exn → Sto → Prop} {v : Dep R F}, (∀ x s, P x s → R x s) → wp R F v (Gk02.m_lowest [.int (a * d + c * b), .int (b * d)] st) := fun h =>
    wp_lowest (Int.mul_ne_zero hb0 hd0) (add_lt (mul_lt ha hd) (mul_lt hc hb)).1 (nat_lt _ (mul_lt hb hd)) (h _ _ q)
  cases k
  all_goals
    (try simp only [↓w_ok, ↓w_exc, ↓w_bad, ↓w_bnd, ↓w_ret, ↓w_badm, ↓w_lift, ↓o_some, ↓o_none, ↓o_map, ↓o_ite, ↓c_true, ↓b_true, ↓b_false, ↓f_nx, ↓f_rt, ↓f_bk, ↓f_ct, ↓f_ex, ↓w_var, ↓w_c, ↓w_c2, ↓w_c1, ↓w_cN, ↓w_nil, ↓w_cons, ↓w_tup, ↓w_lst, ↓w_frz, ↓w_own, ↓w_call, ↓w_no, ↓w_part, ↓w_sl, ↓w_tB, ↓w_tAnd, ↓w_tOr, ↓w_tNot, ↓w_tYes, ↓w_vAnd, ↓w_vOr, ↓w_vNot, ↓w_if, ↓w_pNil, ↓w_pCons, ↓w_dict, ↓w_lc, ↓w_iSeq, ↓w_iRng, ↓w_next, ↓w_seq, ↓w_do, ↓w_sret, ↓w_sretN, ↓w_drop, ↓w_sif, ↓w_brk, ↓w_cnt, ↓w_asg, ↓w_nm, ↓w_gnil, ↓w_gcons, ↓w_gseq, ↓w_gsub, ↓w_par, ↓w_for, ↓w_dput, ↓w_app, ↓l_nx, ↓l_ct, ↓l_bk, ↓l_rt, ↓l_ex, ↓w_loop0, ↓w_run1, ↓w_run2, ↓w_run3, ↓e_rt, ↓e_nx, ↓e_ex, e_rt, e_nx, e_ex, l_nx, l_ct, l_bk, l_rt, l_ex, k_add, k_sub, k_mul, k_div, k_mod, k_pow, k_neg, k_cmp, k_eqi, k_nei, k_divmod, k_gcd, k_abs, i_tup, i_lst, i_ro, lo_lst, st_lst, st_ro, st_tup, o_some, o_none, o_map, o_ite, c_true, b_true, b_false, f_nx, f_rt, f_bk, f_ct, f_ex, boolD_bl, intD_int, two_two, w_ok, bx_turn, bx_cells, bx_put, bx_lenc, bx_ix, bx_sub, List.getElem?_cons_zero, List.getElem?_cons_succ, List.getElem?_nil, List.set_cons_zero, List.set_cons_succ, List.map_cons, List.map_nil, List.replicate_succ, List.replicate_zero, List.cons_append, List.nil_append, List.length_cons, List.length_nil, szl, isa_int_non, isa_int_bl, isa_int_int, isa_int_str, isa_int_tup, isa_int_lst, isa_int_ro, isa_bool_non, isa_bool_bl, isa_bool_int, isa_bool_str, isa_bool_tup, isa_bool_lst, isa_bool_ro, isa_tuple_non, isa_tuple_bl, isa_tuple_int, isa_tuple_str, isa_tuple_tup, isa_tuple_lst, isa_tuple_ro, isa_list_non, isa_list_bl, isa_list_int, isa_list_str, isa_list_tup, isa_list_lst, isa_list_ro, isa_str_non, isa_str_bl, isa_str_int, isa_str_str, isa_str_tup, isa_str_lst, isa_str_ro, isl_non, isl_bl, isl_int, isl_str, isl_tup, isl_lst, isl_ro, Nat.zero_add, Nat.reduceAdd, Nat.reduceSub, Nat.reduceLeDiff, Nat.reduceLT, Nat.reducePow, Int.reduceNeg, decide_true, decide_false, Bool.not_true, Bool.not_false, Int.reduceToNat, Int.reducePow, Int.reduceAdd, Int.reduceSub, Int.reduceMul, nco, eq_self, Int.reduceEq, Int.reduceLT, Int.reduceLE, w_run1, w_run2, w_run3, fl_tup, fl_lst, ix_tup0, ix_tup1, Bool.false_eq_true, reduceCtorEq, ↓w_comp0, ↓w_comp1, wipe0, wipe1, fall_lst, bools0, bools1, Option.map_some, List.all_cons, List.all_nil, id, Bool.and_true, Bool.and_false, Bool.true_and, Bool.false_and, ↓t_rt, ↓t_nx, t_rt, t_nx, kz_int, kz_div, kz_isn0, kz_isn1, kz_isn2, kz_isn3, w_raise0, kz_isl1, kz_isl2, kz_isl3, kz_isb1, fr_t, fr_l, gfl_lst, m1, m2, m3])
    refine go fun x s h => ?_
    (try simp only [↓w_ok, ↓w_exc, ↓w_bad, ↓w_bnd, ↓w_ret, ↓w_badm, ↓w_lift, ↓o_some, ↓o_none, ↓o_map, ↓o_ite, ↓c_true, ↓b_true, ↓b_false, ↓f_nx, ↓f_rt, ↓f_bk, ↓f_ct, ↓f_ex, ↓w_var, ↓w_c, ↓w_c2, ↓w_c1, ↓w_cN, ↓w_nil, ↓w_cons, ↓w_tup, ↓w_lst, ↓w_frz, ↓w_own, ↓w_call, ↓w_no, ↓w_part, ↓w_sl, ↓w_tB, ↓w_tAnd, ↓w_tOr, ↓w_tNot, ↓w_tYes, ↓w_vAnd, ↓w_vOr, ↓w_vNot, ↓w_if, ↓w_pNil, ↓w_pCons, ↓w_dict, ↓w_lc, ↓w_iSeq, ↓w_iRng, ↓w_next, ↓w_seq, ↓w_do, ↓w_sret, ↓w_sretN, ↓w_drop, ↓w_sif, ↓w_brk, ↓w_cnt, ↓w_asg, ↓w_nm, ↓w_gnil, ↓w_gcons, ↓w_gseq, ↓w_gsub, ↓w_par, ↓w_for, ↓w_dput, ↓w_app, ↓l_nx, ↓l_ct, ↓l_bk, ↓l_rt, ↓l_ex, ↓w_loop0, ↓w_run1, ↓w_run2, ↓w_run3, ↓e_rt, ↓e_nx, ↓e_ex, e_rt, e_nx, e_ex, l_nx, l_ct, l_bk, l_rt, l_ex, k_add, k_sub, k_mul, k_div, k_mod, k_pow, k_neg, k_cmp, k_eqi, k_nei, k_divmod, k_gcd, k_abs, i_tup, i_lst, i_ro, lo_lst, st_lst, st_ro, st_tup, o_some, o_none, o_map, o_ite, c_true, b_true, b_false, f_nx, f_rt, f_bk, f_ct, f_ex, boolD_bl, intD_int, two_two, w_ok, bx_turn, bx_cells, bx_put, bx_lenc, bx_ix, bx_sub, List.getElem?_cons_zero, List.getElem?_cons_succ, List.getElem?_nil, List.set_cons_zero, List.set_cons_succ, List.map_cons, List.map_nil, List.replicate_succ, List.replicate_zero, List.cons_append, List.nil_append, List.length_cons, List.length_nil, szl, isa_int_non, isa_int_bl, isa_int_int, isa_int_str, isa_int_tup, isa_int_lst, isa_int_ro, isa_bool_non, isa_bool_bl, isa_bool_int, isa_bool_str, isa_bool_tup, isa_bool_lst, isa_bool_ro, isa_tuple_non, isa_tuple_bl, isa_tuple_int, isa_tuple_str, isa_tuple_tup, isa_tuple_lst, isa_tuple_ro, isa_list_non, isa_list_bl, isa_list_int, isa_list_str, isa_list_tup, isa_list_lst, isa_list_ro, isa_str_non, isa_str_bl, isa_str_int, isa_str_str, isa_str_tup, isa_str_lst, isa_str_ro, isl_non, isl_bl, isl_int, isl_str, isl_tup, isl_lst, isl_ro, Nat.zero_add, Nat.reduceAdd, Nat.reduceSub, Nat.reduceLeDiff, Nat.reduceLT, Nat.reducePow, Int.reduceNeg, decide_true, decide_false, Bool.not_true, Bool.not_false, Int.reduceToNat, Int.reducePow, Int.reduceAdd, Int.reduceSub, Int.reduceMul, nco, eq_self, Int.reduceEq, Int.reduceLT, Int.reduceLE, w_run1, w_run2, w_run3, fl_tup, fl_lst, ix_tup0, ix_tup1, Bool.false_eq_true, reduceCtorEq, ↓w_comp0, ↓w_comp1, wipe0, wipe1, fall_lst, bools0, bools1, Option.map_some, List.all_cons, List.all_nil, id, Bool.and_true, Bool.and_false, Bool.true_and, Bool.false_and, ↓t_rt, ↓t_nx, t_rt, t_nx, kz_int, kz_div, kz_isn0, kz_isn1, kz_isn2, kz_isn3, w_raise0, kz_isl1, kz_isl2, kz_isl3, kz_isb1, fr_t, fr_l, gfl_lst])
    exact h
theorem wp_less (ha : a.natAbs < 2 ^ 100) (hb : b.natAbs < 2 ^ 100) (hc : c.natAbs < 2 ^ 100) (hd : d.natAbs < 2 ^ 100) (hb0 : b ≠ 0) (hd0 : d ≠ 0) (q : P (lowD (a * d - c * b) (b * d)) st) : wp P E u (Gk02.m_less [fr k a b, fr k c d] st) := by
  unfold Gk02.m_less
  have m1 : CMulW a d = True := eq_true (cm_of (nat_lt a ha) (nat_lt d hd))
  have m2 : CMulW c b = True := eq_true (cm_of (nat_lt c hc) (nat_lt b hb))
  have m3 : CMulW b d = True := eq_true (cm_of (nat_lt b hb) (nat_lt d hd))
  have go : ∀ {R : D → Sto → Prop} {F : Exn → Sto → Prop} {v : Dep R F}, (∀ x s, P x s → R x s) → wp R F v (Gk02.m_lowest [.int (a * d - c * b), .int (b * d)] st) := fun h =>
    wp_lowest (Int.mul_ne_zero hb0 hd0) (add_lt (mul_lt ha hd) (mul_lt hc hb)).2 (nat_lt _ (mul_lt hb hd)) (h _ _ q)
  cases k
  all_goals
    (try simp only [↓w_ok, ↓w_exc, ↓w_bad, ↓w_bnd, ↓w_ret, ↓w_badm, ↓w_lift, ↓o_some, ↓o_none, ↓o_map, ↓o_ite, ↓c_true, ↓b_true, ↓b_false, ↓f_nx, ↓f_rt, ↓f_bk, ↓f_ct, ↓f_ex, ↓w_var, ↓w_c, ↓w_c2, ↓w_c1, ↓w_cN, ↓w_nil, ↓w_cons, ↓w_tup, ↓w_lst, ↓w_frz, ↓w_own, ↓w_call, ↓w_no, ↓w_part, ↓w_sl, ↓w_tB, ↓w_tAnd, ↓w_tOr, ↓w_tNot, ↓w_tYes, ↓w_vAnd, ↓w_vOr, ↓w_vNot, ↓w_if, ↓w_pNil, ↓w_pCons, ↓w_dict, ↓w_lc, ↓w_iSeq, ↓w_iRng, ↓w_next, ↓w_seq, ↓w_do, ↓w_sret, ↓w_sretN, ↓w_drop, ↓w_sif, ↓w_brk, ↓w_cnt, ↓w_asg, ↓w_nm, ↓w_gnil, ↓w_gcons, ↓w_gseq, ↓w_gsub, ↓w_par, ↓w_for, ↓w_dput, ↓w_app, ↓l_nx, ↓l_ct, ↓l_bk, ↓l_rt, ↓l_ex, ↓w_loop0, ↓w_run1, ↓w_run2, ↓w_run3, ↓e_rt, ↓e_nx, ↓e_ex, e_rt, e_nx, e_ex, l_nx, l_ct, l_bk, l_rt, l_ex, k_add, k_sub, k_mul, k_div, k_mod, k_pow, k_neg, k_cmp, k_eqi, k_nei, k_divmod, k_gcd, k_abs, i_tup, i_lst, i_ro, lo_lst, st_lst, st_ro, st_tup, o_some, o_none, o_map, o_ite, c_true, b_true, b_false, f_nx, f_rt, f_bk, f_ct, f_ex, boolD_bl, intD_int, two_two, w_ok, bx_turn, bx_cells, bx_put, bx_lenc, bx_ix, bx_sub, List.getElem?_cons_zero, List.getElem?_cons_succ, List.getElem?_nil, List.set_cons_zero, List.set_cons_succ, List.map_cons, List.map_nil, List.replicate_succ, List.replicate_zero, List.cons_append, List.nil_append, List.length_cons, List.length_nil, szl, isa_int_non, isa_int_bl, isa_int_int, isa_int_str, isa_int_tup, isa_int_lst, isa_int_ro, isa_bool_non, isa_bool_bl, isa_bool_int, isa_bool_str, isa_bool_tup, isa_bool_lst, isa_bool_ro, isa_tuple_non, isa_tuple_bl, isa_tuple_int, isa_tuple_str, isa_tuple_tup, isa_tuple_lst, isa_tuple_ro, isa_list_non, isa_list_bl, isa_list_int, isa_list_str, isa_list_tup, isa_list_lst, isa_list_ro, isa_str_non, isa_str_bl, isa_str_int, isa_str_str, isa_str_tup, isa_str_lst, isa_str_ro, isl_non, isl_bl, isl_int, isl_str, isl_tup, isl_lst, isl_ro, Nat.zero_add, Nat.reduceAdd, Nat.reduceSub, Nat.reduceLeDiff, Nat.reduceLT, Nat.reducePow, Int.reduceNeg, decide_true, decide_false, Bool.not_true, Bool.not_false, Int.reduceToNat, Int.reducePow, Int.reduceAdd, Int.reduceSub, Int.reduceMul, nco, eq_self, Int.reduceEq, Int.reduceLT, Int.reduceLE, w_run1, w_run2, w_run3, fl_tup, fl_lst, ix_tup0, ix_tup1, Bool.false_eq_true, reduceCtorEq, ↓w_comp0, ↓w_comp1, wipe0, wipe1, fall_lst, bools0, bools1, Option.map_some, List.all_cons, List.all_nil, id, Bool.and_true, Bool.and_false, Bool.true_and, Bool.false_and, ↓t_rt, ↓t_nx, t_rt, t_nx, kz_int, kz_div, kz_isn0, kz_isn1, kz_isn2, kz_isn3, w_raise0, kz_isl1, kz_isl2, kz_isl3, kz_isb1, fr_t, fr_l, gfl_lst, m1, m2, m3])
    refine go fun x s h => ?_
    (try simp only [↓w_ok, ↓w_exc, ↓w_bad, ↓w_bnd, ↓w_ret, ↓w_badm, ↓w_lift, ↓o_some, ↓o_none, ↓o_map, ↓o_ite, ↓c_true, ↓b_true, ↓b_false, ↓f_nx, ↓f_rt, ↓f_bk, ↓f_ct, ↓f_ex, ↓w_var, ↓w_c, ↓w_c2, ↓w_c1, ↓w_cN, ↓w_nil, ↓w_cons, ↓w_tup, ↓w_lst, ↓w_frz, ↓w_own, ↓w_call, ↓w_no, ↓w_part, ↓w_sl, ↓w_tB, ↓w_tAnd, ↓w_tOr, ↓w_tNot, ↓w_tYes, ↓w_vAnd, ↓w_vOr, ↓w_vNot, ↓w_if, ↓w_pNil, ↓w_pCons, ↓w_dict, ↓w_lc, ↓w_iSeq, ↓w_iRng, ↓w_next, ↓w_seq, ↓w_do, ↓w_sret, ↓w_sretN, ↓w_drop, ↓w_sif, ↓w_brk, ↓w_cnt, ↓w_asg, ↓w_nm, ↓w_gnil, ↓w_gcons, ↓w_gseq, ↓w_gsub, ↓w_par, ↓w_for, ↓w_dput, ↓w_app, ↓l_nx, ↓l_ct, ↓l_bk, ↓l_rt, ↓l_ex, ↓w_loop0, ↓w_run1, ↓w_run2, ↓w_run3, ↓e_rt, ↓e_nx, ↓e_ex, e_rt, e_nx, e_ex, l_nx, l_ct, l_bk, l_rt, l_ex, k_add, k_sub, k_mul, k_div, k_mod, k_pow, k_neg, k_cmp, k_eqi, k_nei, k_divmod, k_gcd, k_abs, i_tup, i_lst, i_ro, lo_lst, st_lst, st_ro, st_tup, o_some, o_none, o_map, o_ite, c_true, b_true, b_false, f_nx, f_rt, f_bk, f_ct, f_ex, boolD_bl, intD_int, two_two, w_ok, bx_turn, bx_cells, bx_put, bx_lenc, bx_ix, bx_sub, List.getElem?_cons_zero, List.getElem?_cons_succ, List.getElem?_nil, List.set_cons_zero, List.set_cons_succ, List.map_cons, List.map_nil, List.replicate_succ, List.replicate_zero, List.cons_append, List.nil_append, List.length_cons, List.length_nil, szl, isa_int_non, isa_int_bl, isa_int_int, isa_int_str, isa_int_tup, isa_int_lst, isa_int_ro, isa_bool_non, isa_bool_bl, isa_bool_int, isa_bool_str, isa_bool_tup, isa_bool_lst, isa_bool_ro, isa_tuple_non, isa_tuple_bl, isa_tuple_int, isa_tuple_str, isa_tuple_tup, isa_tuple_lst, isa_tuple_ro, isa_list_non, isa_list_bl, isa_list_int, isa_list_str, isa_list_tup, isa_list_lst, isa_list_ro, isa_str_non, isa_str_bl, isa_str_int, isa_str_str, isa_str_tup, isa_str_lst, isa_str_ro, isl_non, isl_bl, isl_int, isl_str, isl_tup, isl_lst, isl_ro, Nat.zero_add, Nat.reduceAdd, Nat.reduceSub, Nat.reduceLeDiff, Nat.reduceLT, Nat.reducePow, Int.reduceNeg, decide_true, decide_false, Bool.not_true, Bool.not_false, Int.reduceToNat, Int.reducePow, Int.reduceAdd, Int.reduceSub, Int.reduceMul, nco, eq_self, Int.reduceEq, Int.reduceLT, Int.reduceLE, w_run1, w_run2, w_run3, fl_tup, fl_lst, ix_tup0, ix_tup1, Bool.false_eq_true, reduceCtorEq, ↓w_comp0, ↓w_comp1, wipe0, wipe1, fall_lst, bools0, bools1, Option.map_some, List.all_cons, List.all_nil, id, Bool.and_true, Bool.and_false, Bool.true_and, Bool.false_and, ↓t_rt, ↓t_nx, t_rt, t_nx, kz_int, kz_div, kz_isn0, kz_isn1, kz_isn2, kz_isn3, w_raise0, kz_isl1, kz_isl2, kz_isl3, kz_isb1, fr_t, fr_l, gfl_lst])
    exact h
theorem wp_times (ha : a.natAbs < 2 ^ 100) (hb : b.natAbs < 2 ^ 100) (hc : c.natAbs < 2 ^ 100) (hd : d.natAbs < 2 ^ 100) (hb0 : b ≠ 0) (hd0 : d ≠ 0) (q : P (lowD (a * c) (b * d)) st) : wp P E u (Gk02.m_times [fr k a b, fr k c d] st) := by
  unfold Gk02.m_times
  have m1 : CMulW a c = True := eq_true (cm_of (nat_lt a ha) (nat_lt c hc))
  have m3 : CMulW b d = True := eq_true (cm_of (nat_lt b hb) (nat_lt d hd))
  have go : ∀ {R : D → Sto → Prop} {F : Exn → Sto → Prop} {v : Dep R F}, (∀ x s, P x s → R x s) → wp R F v (Gk02.m_lowest [.int (a * c), .int (b * d)] st) := fun h =>
    wp_lowest (Int.mul_ne_zero hb0 hd0) (nat_lt _ (mul_lt ha hc)) (nat_lt _ (mul_lt hb hd)) (h _ _ q)
  cases k
  all_goals
    (try simp only [↓w_ok, ↓w_exc, ↓w_bad, ↓w_bnd, ↓w_ret, ↓w_badm, ↓w_lift, ↓o_some, ↓o_none, ↓o_map, ↓o_ite, ↓c_true, ↓b_true, ↓b_false, ↓f_nx, ↓f_rt, ↓f_bk, ↓f_ct, ↓f_ex, ↓w_var, ↓w_c, ↓w_c2, ↓w_c1, ↓w_cN, ↓w_nil, ↓w_cons, ↓w_tup, ↓w_lst, ↓w_frz, ↓w_own, ↓w_call, ↓w_no, ↓w_part, ↓w_sl, ↓w_tB, ↓w_tAnd, ↓w_tOr, ↓w_tNot, ↓w_tYes, ↓w_vAnd, ↓w_vOr, ↓w_vNot, ↓w_if, ↓w_pNil, ↓w_pCons, ↓w_dict, ↓w_lc, ↓w_iSeq, ↓w_iRng, ↓w_next, ↓w_seq, ↓w_do, ↓w_sret, ↓w_sretN, ↓w_drop, ↓w_sif, ↓w_brk, ↓w_cnt, ↓w_asg, ↓w_nm, ↓w_gnil, ↓w_gcons, ↓w_gseq, ↓w_gsub, ↓w_par, ↓w_for, ↓w_dput, ↓w_app, ↓l_nx, ↓l_ct, ↓l_bk, ↓l_rt, ↓l_ex, ↓w_loop0, ↓w_run1, ↓w_run2, ↓w_run3, ↓e_rt, ↓e_nx, ↓e_ex, e_rt, e_nx, e_ex, l_nx, l_ct, l_bk, l_rt, l_ex, k_add, k_sub, k_mul, k_div, k_mod, k_pow, k_neg, k_cmp, k_eqi, k_nei, k_divmod, k_gcd, k_abs, i_tup, i_lst, i_ro, lo_lst, st_lst, st_ro, st_tup, o_some, o_none, o_map, o_ite, c_true, b_true, b_false, f_nx, f_rt, f_bk, f_ct, f_ex, boolD_bl, intD_int, two_two, w_ok, bx_turn, bx_cells, bx_put, bx_lenc, bx_ix, bx_sub, List.getElem?_cons_zero, List.getElem?_cons_succ, List.getElem?_nil, List.set_cons_zero, List.set_cons_succ, List.map_cons, List.map_nil, List.replicate_succ, List.replicate_zero, List.cons_append, List.nil_append, List.length_cons, List.length_nil, szl, isa_int_non, isa_int_bl, isa_int_int, isa_int_str, isa_int_tup, isa_int_lst, isa_int_ro, isa_bool_non, isa_bool_bl, isa_bool_int, isa_bool_str, isa_bool_tup, isa_bool_lst, isa_bool_ro, isa_tuple_non, isa_tuple_bl, isa_tuple_int, isa_tuple_str, isa_tuple_tup, isa_tuple_lst, isa_tuple_ro, isa_list_non, isa_list_bl, isa_list_int, isa_list_str, isa_list_tup, isa_list_lst, isa_list_ro, isa_str_non, isa_str_bl, isa_str_int, isa_str_str, isa_str_tup, isa_str_lst, isa_str_ro, isl_non, isl_bl, isl_int, isl_str, isl_tup, isl_lst, isl_ro, Nat.zero_add, Nat.reduceAdd, Nat.reduceSub, Nat.reduceLeDiff, Nat.reduceLT, Nat.reducePow, Int.reduceNeg, decide_true, decide_false, Bool.not_true, Bool.not_false, Int.reduceToNat, Int.reducePow, Int.reduceAdd, Int.reduceSub, Int.reduceMul, nco, eq_self, Int.reduceEq, Int.reduceLT, Int.reduceLE, w_run1, w_run2, w_run3, fl_tup, fl_lst, ix_tup0, ix_tup1, Bool.false_eq_true, reduceCtorEq, ↓w_comp0, ↓w_comp1, wipe0, wipe1, fall_lst, bools0, bools1, Option.map_some, List.all_cons, List.all_nil, id, Bool.and_true, Bool.and_false, Bool.true_and, Bool.false_and, ↓t_rt, ↓t_nx, t_rt, t_nx, kz_int, kz_div, kz_isn0, kz_isn1, kz_isn2, kz_isn3, w_raise0, kz_isl1, kz_isl2, kz_isl3, kz_isb1, fr_t, fr_l, gfl_lst, m1, m3])
    refine go fun x s h => ?_
    (try simp only [↓w_ok, ↓w_exc, ↓w_bad, ↓w_bnd, ↓w_ret, ↓w_badm, ↓w_lift, ↓o_some, ↓o_none, ↓o_map, ↓o_ite, ↓c_true, ↓b_true, ↓b_false, ↓f_nx, ↓f_rt, ↓f_bk, ↓f_ct, ↓f_ex, ↓w_var, ↓w_c, ↓w_c2, ↓w_c1, ↓w_cN, ↓w_nil, ↓w_cons, ↓w_tup, ↓w_lst, ↓w_frz, ↓w_own, ↓w_call, ↓w_no, ↓w_part, ↓w_sl, ↓w_tB, ↓w_tAnd, ↓w_tOr, ↓w_tNot, ↓w_tYes, ↓w_vAnd, ↓w_vOr, ↓w_vNot, ↓w_if, ↓w_pNil, ↓w_pCons, ↓w_dict, ↓w_lc, ↓w_iSeq, ↓w_iRng, ↓w_next, ↓w_seq, ↓w_do, ↓w_sret, ↓w_sretN, ↓w_drop, ↓w_sif, ↓w_brk, ↓w_cnt, ↓w_asg, ↓w_nm, ↓w_gnil, ↓w_gcons, ↓w_gseq, ↓w_gsub, ↓w_par, ↓w_for, ↓w_dput, ↓w_app, ↓l_nx, ↓l_ct, ↓l_bk, ↓l_rt, ↓l_ex, ↓w_loop0, ↓w_run1, ↓w_run2, ↓w_run3, ↓e_rt, ↓e_nx, ↓e_ex, e_rt, e_nx, e_ex, l_nx, l_ct, l_bk, l_rt, l_ex, k_add, k_sub, k_mul, k_div, k_mod, k_pow, k_neg, k_cmp, k_eqi, k_nei, k_divmod, k_gcd, k_abs, i_tup, i_lst, i_ro, lo_lst, st_lst, st_ro, st_tup, o_some, o_none, o_map, o_ite, c_true, b_true, b_false, f_nx, f_rt, f_bk, f_ct, f_ex, boolD_bl, intD_int, two_two, w_ok, bx_turn, bx_cells, bx_put, bx_lenc, bx_ix, bx_sub, List.getElem?_cons_zero, List.getElem?_cons_succ, List.getElem?_nil, List.set_cons_zero, List.set_cons_succ, List.map_cons, List.map_nil, List.replicate_succ, List.replicate_zero, List.cons_append, List.nil_append, List.length_cons, List.length_nil, szl, isa_int_non, isa_int_bl, isa_int_int, isa_int_str, isa_int_tup, isa_int_lst, isa_int_ro, isa_bool_non, isa_bool_bl, isa_bool_int, isa_bool_str, isa_bool_tup, isa_bool_lst, isa_bool_ro, isa_tuple_non, isa_tuple_bl, isa_tuple_int, isa_tuple_str, isa_tuple_tup, isa_tuple_lst, isa_tuple_ro, isa_list_non, isa_list_bl, isa_list_int, isa_list_str, isa_list_tup, isa_list_lst, isa_list_ro, isa_str_non, isa_str_bl, isa_str_int, isa_str_str, isa_str_tup, isa_str_lst, isa_str_ro, isl_non, isl_bl, isl_int, isl_str, isl_tup, isl_lst, isl_ro, Nat.zero_add, Nat.reduceAdd, Nat.reduceSub, Nat.reduceLeDiff, Nat.reduceLT, Nat.reducePow, Int.reduceNeg, decide_true, decide_false, Bool.not_true, Bool.not_false, Int.reduceToNat, Int.reducePow, Int.reduceAdd, Int.reduceSub, Int.reduceMul, nco, eq_self, Int.reduceEq, Int.reduceLT, Int.reduceLE, w_run1, w_run2, w_run3, fl_tup, fl_lst, ix_tup0, ix_tup1, Bool.false_eq_true, reduceCtorEq, ↓w_comp0, ↓w_comp1, wipe0, wipe1, fall_lst, bools0, bools1, Option.map_some, List.all_cons, List.all_nil, id, Bool.and_true, Bool.and_false, Bool.true_and, Bool.false_and, ↓t_rt, ↓t_nx, t_rt, t_nx, kz_int, kz_div, kz_isn0, kz_isn1, kz_isn2, kz_isn3, w_raise0, kz_isl1, kz_isl2, kz_isl3, kz_isb1, fr_t, fr_l, gfl_lst])
    exact h
theorem wp_over (ha : a.natAbs < 2 ^ 100) (hb : b.natAbs < 2 ^ 100) (hc : c.natAbs < 2 ^ 100) (hd : d.natAbs < 2 ^ 100) (hb0 : b ≠ 0) (hc0 : c ≠ 0) (q : P (lowD (a * d) (b * c)) st) : wp P E u (Gk02.m_over [fr k a b, fr k c d] st) := by
  unfold Gk02.m_over
  have m1 : CMulW a d = True := eq_true (cm_of (nat_lt a ha) (nat_lt d hd))
  have m3 : CMulW b c = True := eq_true (cm_of (nat_lt b hb) (nat_lt c hc))
  have go : ∀ {R : D → Sto → Prop} {F : Exn → Sto → Prop} {v : Dep R F}, (∀ x s, P x s → R x s) → wp R F v (Gk02.m_lowest [.int (a * d), .int (b * c)] st) := fun h =>
    wp_lowest (Int.mul_ne_zero hb0 hc0) (nat_lt _ (mul_lt ha hd)) (nat_lt _ (mul_lt hb hc)) (h _ _ q)
  cases k
  all_goals
    (try simp only [↓w_ok, ↓w_exc, ↓w_bad, ↓w_bnd, ↓w_ret, ↓w_badm, ↓w_lift, ↓o_some, ↓o_none, ↓o_map, ↓o_ite, ↓c_true, ↓b_true, ↓b_false, ↓f_nx, ↓f_rt, ↓f_bk, ↓f_ct, ↓f_ex, ↓w_var, ↓w_c, ↓w_c2, ↓w_c1, ↓w_cN, ↓w_nil, ↓w_cons, ↓w_tup, ↓w_lst, ↓w_frz, ↓w_own, ↓w_call, ↓w_no, ↓w_part, ↓w_sl, ↓w_tB, ↓w_tAnd, ↓w_tOr, ↓w_tNot, ↓w_tYes, ↓w_vAnd, ↓w_vOr, ↓w_vNot, ↓w_if, ↓w_pNil, ↓w_pCons, ↓w_dict, ↓w_lc, ↓w_iSeq, ↓w_iRng, ↓w_next, ↓w_seq, ↓w_do, ↓w_sret, ↓w_sretN, ↓w_drop, ↓w_sif, ↓w_brk, ↓w_cnt, ↓w_asg, ↓w_nm, ↓w_gnil, ↓w_gcons, ↓w_gseq, ↓w_gsub, ↓w_par, ↓w_for, ↓w_dput, ↓w_app, ↓l_nx, ↓l_ct, ↓l_bk, ↓l_rt, ↓l_ex, ↓w_loop0, ↓w_run1, ↓w_run2, ↓w_run3, ↓e_rt, ↓e_nx, ↓e_ex, e_rt, e_nx, e_ex, l_nx, l_ct, l_bk, l_rt, l_ex, k_add, k_sub, k_mul, k_div, k_mod, k_pow, k_neg, k_cmp, k_eqi, k_nei, k_divmod, k_gcd, k_abs, i_tup, i_lst, i_ro, lo_lst, st_lst, st_ro, st_tup, o_some, o_none, o_map, o_ite, c_true, b_true, b_false, f_nx, f_rt, f_bk, f_ct, f_ex, boolD_bl, intD_int, two_two, w_ok, bx_turn, bx_cells, bx_put, bx_lenc, bx_ix, bx_sub, List.getElem?_cons_zero, List.getElem?_cons_succ, List.getElem?_nil, List.set_cons_zero, List.set_cons_succ, List.map_cons, List.map_nil, List.replicate_succ, List.replicate_zero, List.cons_append, List.nil_append, List.length_cons, List.length_nil, szl, isa_int_non, isa_int_bl, isa_int_int, isa_int_str, isa_int_tup, isa_int_lst, isa_int_ro, isa_bool_non, isa_bool_bl, isa_bool_int, isa_bool_str, isa_bool_tup, isa_bool_lst, isa_bool_ro, isa_tuple_non, isa_tuple_bl, isa_tuple_int, isa_tuple_str, isa_tuple_tup, isa_tuple_lst, isa_tuple_ro, isa_list_non, isa_list_bl, isa_list_int, isa_list_str, isa_list_tup, isa_list_lst, isa_list_ro, isa_str_non, isa_str_bl, isa_str_int, isa_str_str, isa_str_tup, isa_str_lst, isa_str_ro, isl_non, isl_bl, isl_int, isl_str, isl_tup, isl_lst, isl_ro, Nat.zero_add, Nat.reduceAdd, Nat.reduceSub, Nat.reduceLeDiff, Nat.reduceLT, Nat.reducePow, Int.reduceNeg, decide_true, decide_false, Bool.not_true, Bool.not_false, Int.reduceToNat, Int.reducePow, Int.reduceAdd, Int.reduceSub, Int.reduceMul, nco, eq_self, Int.reduceEq, Int.reduceLT, Int.reduceLE, w_run1, w_run2, w_run3, fl_tup, fl_lst, ix_tup0, ix_tup1, Bool.false_eq_true, reduceCtorEq, ↓w_comp0, ↓w_comp1, wipe0, wipe1, fall_lst, bools0, bools1, Option.map_some, List.all_cons, List.all_nil, id, Bool.and_true, Bool.and_false, Bool.true_and, Bool.false_and, ↓t_rt, ↓t_nx, t_rt, t_nx, kz_int, kz_div, kz_isn0, kz_isn1, kz_isn2, kz_isn3, w_raise0, kz_isl1, kz_isl2, kz_isl3, kz_isb1, fr_t, fr_l, gfl_lst, m1, m3])
    refine go fun x s h => ?_
    (try simp only [↓w_ok, ↓w_exc, ↓w_bad, ↓w_bnd, ↓w_ret, ↓w_badm, ↓w_lift, ↓o_some, ↓o_none, ↓o_map, ↓o_ite, ↓c_true, ↓b_true, ↓b_false, ↓f_nx, ↓f_rt, ↓f_bk, ↓f_ct, ↓f_ex, ↓w_var, ↓w_c, ↓w_c2, ↓w_c1, ↓w_cN, ↓w_nil, ↓w_cons, ↓w_tup, ↓w_lst, ↓w_frz, ↓w_own, ↓w_call, ↓w_no, ↓w_part, ↓w_sl, ↓w_tB, ↓w_tAnd, ↓w_tOr, ↓w_tNot, ↓w_tYes, ↓w_vAnd, ↓w_vOr, ↓w_vNot, ↓w_if, ↓w_pNil, ↓w_pCons, ↓w_dict, ↓w_lc, ↓w_iSeq, ↓w_iRng, ↓w_next, ↓w_seq, ↓w_do, ↓w_sret, ↓w_sretN, ↓w_drop, ↓w_sif, ↓w_brk, ↓w_cnt, ↓w_asg, ↓w_nm, ↓w_gnil, ↓w_gcons, ↓w_gseq, ↓w_gsub, ↓w_par, ↓w_for, ↓w_dput, ↓w_app, ↓l_nx, ↓l_ct, ↓l_bk, ↓l_rt, ↓l_ex, ↓w_loop0, ↓w_run1, ↓w_run2, ↓w_run3, ↓e_rt, ↓e_nx, ↓e_ex, e_rt, e_nx, e_ex, l_nx, l_ct, l_bk, l_rt, l_ex, k_add, k_sub, k_mul, k_div, k_mod, k_pow, k_neg, k_cmp, k_eqi, k_nei, k_divmod, k_gcd, k_abs, i_tup, i_lst, i_ro, lo_lst, st_lst, st_ro, st_tup, o_some, o_none, o_map, o_ite, c_true, b_true, b_false, f_nx, f_rt, f_bk, f_ct, f_ex, boolD_bl, intD_int, two_two, w_ok, bx_turn, bx_cells, bx_put, bx_lenc, bx_ix, bx_sub, List.getElem?_cons_zero, List.getElem?_cons_succ, List.getElem?_nil, List.set_cons_zero, List.set_cons_succ, List.map_cons, List.map_nil, List.replicate_succ, List.replicate_zero, List.cons_append, List.nil_append, List.length_cons, List.length_nil, szl, isa_int_non, isa_int_bl, isa_int_int, isa_int_str, isa_int_tup, isa_int_lst, isa_int_ro, isa_bool_non, isa_bool_bl, isa_bool_int, isa_bool_str, isa_bool_tup, isa_bool_lst, isa_bool_ro, isa_tuple_non, isa_tuple_bl, isa_tuple_int, isa_tuple_str, isa_tuple_tup, isa_tuple_lst, isa_tuple_ro, isa_list_non, isa_list_bl, isa_list_int, isa_list_str, isa_list_tup, isa_list_lst, isa_list_ro, isa_str_non, isa_str_bl, isa_str_int, isa_str_str, isa_str_tup, isa_str_lst, isa_str_ro, isl_non, isl_bl, isl_int, isl_str, isl_tup, isl_lst, isl_ro, Nat.zero_add, Nat.reduceAdd, Nat.reduceSub, Nat.reduceLeDiff, Nat.reduceLT, Nat.reducePow, Int.reduceNeg, decide_true, decide_false, Bool.not_true, Bool.not_false, Int.reduceToNat, Int.reducePow, Int.reduceAdd, Int.reduceSub, Int.reduceMul, nco, eq_self, Int.reduceEq, Int.reduceLT, Int.reduceLE, w_run1, w_run2, w_run3, fl_tup, fl_lst, ix_tup0, ix_tup1, Bool.false_eq_true, reduceCtorEq, ↓w_comp0, ↓w_comp1, wipe0, wipe1, fall_lst, bools0, bools1, Option.map_some, List.all_cons, List.all_nil, id, Bool.and_true, Bool.and_false, Bool.true_and, Bool.false_and, ↓t_rt, ↓t_nx, t_rt, t_nx, kz_int, kz_div, kz_isn0, kz_isn1, kz_isn2, kz_isn3, w_raise0, kz_isl1, kz_isl2, kz_isl3, kz_isb1, fr_t, fr_l, gfl_lst])
    exact h
theorem wp_over0 (ha : a.natAbs < 2 ^ 100) (hb : b.natAbs < 2 ^ 100) (hd : d.natAbs < 2 ^ 100) (q : E NP st) : wp P E u (Gk02.m_over [fr k a b, fr k 0 d] st) := by
  unfold Gk02.m_over
  have m1 : CMulW a d = True := eq_true (cm_of (nat_lt a ha) (nat_lt d hd))
  have m3 : CMulW b 0 = True := eq_true (cm_of (nat_lt b hb) (by decide))
  cases k
  all_goals
    (try simp only [↓w_ok, ↓w_exc, ↓w_bad, ↓w_bnd, ↓w_ret, ↓w_badm, ↓w_lift, ↓o_some, ↓o_none, ↓o_map, ↓o_ite, ↓c_true, ↓b_true, ↓b_false, ↓f_nx, ↓f_rt, ↓f_bk, ↓f_ct, ↓f_ex, ↓w_var, ↓w_c, ↓w_c2, ↓w_c1, ↓w_cN, ↓w_nil, ↓w_cons, ↓w_tup, ↓w_lst, ↓w_frz, ↓w_own, ↓w_call, ↓w_no, ↓w_part, ↓w_sl, ↓w_tB, ↓w_tAnd, ↓w_tOr, ↓w_tNot, ↓w_tYes, ↓w_vAnd, ↓w_vOr, ↓w_vNot, ↓w_if, ↓w_pNil, ↓w_pCons, ↓w_dict, ↓w_lc, ↓w_iSeq, ↓w_iRng, ↓w_next, ↓w_seq, ↓w_do, ↓w_sret, ↓w_sretN, ↓w_drop, ↓w_sif, ↓w_brk, ↓w_cnt, ↓w_asg, ↓w_nm, ↓w_gnil, ↓w_gcons, ↓w_gseq, ↓w_gsub, ↓w_par, ↓w_for, ↓w_dput, ↓w_app, ↓l_nx, ↓l_ct, ↓l_bk, ↓l_rt, ↓l_ex, ↓w_loop0, ↓w_run1, ↓w_run2, ↓w_run3, ↓e_rt, ↓e_nx, ↓e_ex, e_rt, e_nx, e_ex, l_nx, l_ct, l_bk, l_rt, l_ex, k_add, k_sub, k_mul, k_div, k_mod, k_pow, k_neg, k_cmp, k_eqi, k_nei, k_divmod, k_gcd, k_abs, i_tup, i_lst, i_ro, lo_lst, st_lst, st_ro, st_tup, o_some, o_none, o_map, o_ite, c_true, b_true, b_false, f_nx, f_rt, f_bk, f_ct, f_ex, boolD_bl, intD_int, two_two, w_ok, bx_turn, bx_cells, bx_put, bx_lenc, bx_ix, bx_sub, List.getElem?_cons_zero, List.getElem?_cons_succ, List.getElem?_nil, List.set_cons_zero, List.set_cons_succ, List.map_cons, List.map_nil, List.replicate_succ, List.replicate_zero, List.cons_append, List.nil_append, List.length_cons, List.length_nil, szl, isa_int_non, isa_int_bl, isa_int_int, isa_int_str, isa_int_tup, isa_int_lst, isa_int_ro, isa_bool_non, isa_bool_bl, isa_bool_int, isa_bool_str, isa_bool_tup, isa_bool_lst, isa_bool_ro, isa_tuple_non, isa_tuple_bl, isa_tuple_int, isa_tuple_str, isa_tuple_tup, isa_tuple_lst, isa_tuple_ro, isa_list_non, isa_list_bl, isa_list_int, isa_list_str, isa_list_tup, isa_list_lst, isa_list_ro, isa_str_non, isa_str_bl, isa_str_int, isa_str_str, isa_str_tup, isa_str_lst, isa_str_ro, isl_non, isl_bl, isl_int, isl_str, isl_tup, isl_lst, isl_ro, Nat.zero_add, Nat.reduceAdd, Nat.reduceSub, Nat.reduceLeDiff, Nat.reduceLT, Nat.reducePow, Int.reduceNeg, decide_true, decide_false, Bool.not_true, Bool.not_false, Int.reduceToNat, Int.reducePow, Int.reduceAdd, Int.reduceSub, Int.reduceMul, nco, eq_self, Int.reduceEq, Int.reduceLT, Int.reduceLE, w_run1, w_run2, w_run3, fl_tup, fl_lst, ix_tup0, ix_tup1, Bool.false_eq_true, reduceCtorEq, ↓w_comp0, ↓w_comp1, wipe0, wipe1, fall_lst, bools0, bools1, Option.map_some, List.all_cons, List.all_nil, id, Bool.and_true, Bool.and_false, Bool.true_and, Bool.false_and, ↓t_rt, ↓t_nx, t_rt, t_nx, kz_int, kz_div, kz_isn0, kz_isn1, kz_isn2, kz_isn3, w_raise0, kz_isl1, kz_isl2, kz_isl3, kz_isb1, fr_t, fr_l, gfl_lst, m1, m3, Int.mul_zero])
    refine wp_lowest0 ?_
    (try simp only [↓w_ok, ↓w_exc, ↓w_bad, ↓w_bnd, ↓w_ret, ↓w_badm, ↓w_lift, ↓o_some, ↓o_none, ↓o_map, ↓o_ite, ↓c_true, ↓b_true, ↓b_false, ↓f_nx, ↓f_rt, ↓f_bk, ↓f_ct, ↓f_ex, ↓w_var, ↓w_c, ↓w_c2, ↓w_c1, ↓w_cN, ↓w_nil, ↓w_cons, ↓w_tup, ↓w_lst, ↓w_frz, ↓w_own, ↓w_call, ↓w_no, ↓w_part, ↓w_sl, ↓w_tB, ↓w_tAnd, ↓w_tOr, ↓w_tNot, ↓w_tYes, ↓w_vAnd, ↓w_vOr, ↓w_vNot, ↓w_if, ↓w_pNil, ↓w_pCons, ↓w_dict, ↓w_lc, ↓w_iSeq, ↓w_iRng, ↓w_next, ↓w_seq, ↓w_do, ↓w_sret, ↓w_sretN, ↓w_drop, ↓w_sif, ↓w_brk, ↓w_cnt, ↓w_asg, ↓w_nm, ↓w_gnil, ↓w_gcons, ↓w_gseq, ↓w_gsub, ↓w_par, ↓w_for, ↓w_dput, ↓w_app, ↓l_nx, ↓l_ct, ↓l_bk, ↓l_rt, ↓l_ex, ↓w_loop0, ↓w_run1, ↓w_run2, ↓w_run3, ↓e_rt, ↓e_nx, ↓e_ex, e_rt, e_nx, e_ex, l_nx, l_ct, l_bk, l_rt, l_ex, k_add, k_sub, k_mul, k_div, k_mod, k_pow, k_neg, k_cmp, k_eqi, k_nei, k_divmod, k_gcd, k_abs, i_tup, i_lst, i_ro, lo_lst, st_lst, st_ro, st_tup, o_some, o_none, o_map, o_ite, c_true, b_true, b_false, f_nx, f_rt, f_bk, f_ct, f_ex, boolD_bl, intD_int, two_two, w_ok, bx_turn, bx_cells, bx_put, bx_lenc, bx_ix, bx_sub, List.getElem?_cons_zero, List.getElem?_cons_succ, List.getElem?_nil, List.set_cons_zero, List.set_cons_succ, List.map_cons, List.map_nil, List.replicate_succ, List.replicate_zero, List.cons_append, List.nil_append, List.length_cons, List.length_nil, szl, isa_int_non, isa_int_bl, isa_int_int, isa_int_str, isa_int_tup, isa_int_lst, isa_int_ro, isa_bool_non, isa_bool_bl, isa_bool_int, isa_bool_str, isa_bool_tup, isa_bool_lst, isa_bool_ro, isa_tuple_non, isa_tuple_bl, isa_tuple_int, isa_tuple_str, isa_tuple_tup, isa_tuple_lst, isa_tuple_ro, isa_list_non, isa_list_bl, isa_list_int, isa_list_str, isa_list_tup, isa_list_lst, isa_list_ro, isa_str_non, isa_str_bl, isa_str_int, isa_str_str, isa_str_tup, isa_str_lst, isa_str_ro, isl_non, isl_bl, isl_int, isl_str, isl_tup, isl_lst, isl_ro, Nat.zero_add, Nat.reduceAdd, Nat.reduceSub, Nat.reduceLeDiff, Nat.reduceLT, Nat.reducePow, Int.reduceNeg, decide_true, decide_false, Bool.not_true, Bool.not_false, Int.reduceToNat, Int.reducePow, Int.reduceAdd, Int.reduceSub, Int.reduceMul, nco, eq_self, Int.reduceEq, Int.reduceLT, Int.reduceLE, w_run1, w_run2, w_run3, fl_tup, fl_lst, ix_tup0, ix_tup1, Bool.false_eq_true, reduceCtorEq, ↓w_comp0, ↓w_comp1, wipe0, wipe1, fall_lst, bools0, bools1, Option.map_some, List.all_cons, List.all_nil, id, Bool.and_true, Bool.and_false, Bool.true_and, Bool.false_and, ↓t_rt, ↓t_nx, t_rt, t_nx, kz_int, kz_div, kz_isn0, kz_isn1, kz_isn2, kz_isn3, w_raise0, kz_isl1, kz_isl2, kz_isl3, kz_isb1, fr_t, fr_l, gfl_lst])
    exact q
def sgn (a : Int) : Int := if a = 0 then 0 else if 0 < a then 1 else -1
theorem wp_sign (q : P (.int (sgn a)) st) : wp P E u (Gk02.m_sign_of [fr k a b] st) := by
  unfold Gk02.m_sign_of
  unfold sgn at q
  have ixl : ∀ x y : D, dIx st (.lst [x, y]) (.int 0) = some x := fun x y => by simp [dIx, items, atI, ixN]
  cases k
  all_goals
    (try simp only [↓w_ok, ↓w_exc, ↓w_bad, ↓w_bnd, ↓w_ret, ↓w_badm, ↓w_lift, ↓o_some, ↓o_none, ↓o_map, ↓o_ite, ↓c_true, ↓b_true, ↓b_false, ↓f_nx, ↓f_rt, ↓f_bk, ↓f_ct, ↓f_ex, ↓w_var, ↓w_c, ↓w_c2, ↓w_c1, ↓w_cN, ↓w_nil, ↓w_cons, ↓w_tup, ↓w_lst, ↓w_frz, ↓w_own, ↓w_call, ↓w_no, ↓w_part, ↓w_sl, ↓w_tB, ↓w_tAnd, ↓w_tOr, ↓w_tNot, ↓w_tYes, ↓w_vAnd, ↓w_vOr, ↓w_vNot, ↓w_if, ↓w_pNil, ↓w_pCons, ↓w_dict, ↓w_lc, ↓w_iSeq, ↓w_iRng, ↓w_next, ↓w_seq, ↓w_do, ↓w_sret, ↓w_sretN, ↓w_drop, ↓w_sif, ↓w_brk, ↓w_cnt, ↓w_asg, ↓w_nm, ↓w_gnil, ↓w_gcons, ↓w_gseq, ↓w_gsub, ↓w_par, ↓w_for, ↓w_dput, ↓w_app, ↓l_nx, ↓l_ct, ↓l_bk, ↓l_rt, ↓l_ex, ↓w_loop0, ↓w_run1, ↓w_run2, ↓w_run3, ↓e_rt, ↓e_nx, ↓e_ex, e_rt, e_nx, e_ex, l_nx, l_ct, l_bk, l_rt, l_ex, k_add, k_sub, k_mul, k_div, k_mod, k_pow, k_neg, k_cmp, k_eqi, k_nei, k_divmod, k_gcd, k_abs, i_tup, i_lst, i_ro, lo_lst, st_lst, st_ro, st_tup, o_some, o_none, o_map, o_ite, c_true, b_true, b_false, f_nx, f_rt, f_bk, f_ct, f_ex, boolD_bl, intD_int, two_two, w_ok, bx_turn, bx_cells, bx_put, bx_lenc, bx_ix, bx_sub, List.getElem?_cons_zero, List.getElem?_cons_succ, List.getElem?_nil, List.set_cons_zero, List.set_cons_succ, List.map_cons, List.map_nil, List.replicate_succ, List.replicate_zero, List.cons_append, List.nil_append, List.length_cons, List.length_nil, szl, isa_int_non, isa_int_bl, isa_int_int, isa_int_str, isa_int_tup, isa_int_lst, isa_int_ro, isa_bool_non, isa_bool_bl, isa_bool_int, isa_bool_str, isa_bool_tup, isa_bool_lst, isa_bool_ro, isa_tuple_non, isa_tuple_bl, isa_tuple_int, isa_tuple_str, isa_tuple_tup, isa_tuple_lst, isa_tuple_ro, isa_list_non, isa_list_bl, isa_list_int, isa_list_str, isa_list_tup, isa_list_lst, isa_list_ro, isa_str_non, isa_str_bl, isa_str_int, isa_str_str, isa_str_tup, isa_str_lst, isa_str_ro, isl_non, isl_bl, isl_int, isl_str, isl_tup, isl_lst, isl_ro, Nat.zero_add, Nat.reduceAdd, Nat.reduceSub, Nat.reduceLeDiff, Nat.reduceLT, Nat.reducePow, Int.reduceNeg, decide_true, decide_false, Bool.not_true, Bool.not_false, Int.reduceToNat, Int.reducePow, Int.reduceAdd, Int.reduceSub, Int.reduceMul, nco, eq_self, Int.reduceEq, Int.reduceLT, Int.reduceLE, w_run1, w_run2, w_run3, fl_tup, fl_lst, ix_tup0, ix_tup1, Bool.false_eq_true, reduceCtorEq, ↓w_comp0, ↓w_comp1, wipe0, wipe1, fall_lst, bools0, bools1, Option.map_some, List.all_cons, List.all_nil, id, Bool.and_true, Bool.and_false, Bool.true_and, Bool.false_and, ↓t_rt, ↓t_nx, t_rt, t_nx, kz_int, kz_div, kz_isn0, kz_isn1, kz_isn2, kz_isn3, w_raise0, kz_isl1, kz_isl2, kz_isl3, kz_isb1, fr_t, fr_l, gfl_lst, ixl])
    refine wb_i (fun h => ?_) (fun h => ?_)
    · rw [if_pos (of_decide_eq_true h)] at q
      (try simp only [↓w_ok, ↓w_exc, ↓w_bad, ↓w_bnd, ↓w_ret, ↓w_badm, ↓w_lift, ↓o_some, ↓o_none, ↓o_map, ↓o_ite, ↓c_true, ↓b_true, ↓b_false, ↓f_nx, ↓f_rt, ↓f_bk, ↓f_ct, ↓f_ex, ↓w_var, ↓w_c, ↓w_c2, ↓w_c1, ↓w_cN, ↓w_nil, ↓w_cons, ↓w_tup, ↓w_lst, ↓w_frz, ↓w_own, ↓w_call, ↓w_no, ↓w_part, ↓w_sl, ↓w_tB, ↓w_tAnd, ↓w_tOr, ↓w_tNot, ↓w_tYes, ↓w_vAnd, ↓w_vOr, ↓w_vNot, ↓w_if, ↓w_pNil, ↓w_pCons, ↓w_dict, ↓w_lc, ↓w_iSeq, ↓w_iRng, ↓w_next, ↓w_seq, ↓w_do, ↓w_sret, ↓w_sretN, ↓w_drop, ↓w_sif, ↓w_brk, ↓w_cnt, ↓w_asg, ↓w_nm, ↓w_gnil, ↓w_gcons, ↓w_gseq, ↓w_gsub, ↓w_par, ↓w_for, ↓w_dput, ↓w_app, ↓l_nx, ↓l_ct, ↓l_bk, ↓l_rt, ↓l_ex, ↓w_loop0, ↓w_run1, ↓w_run2, ↓w_run3, ↓e_rt, ↓e_nx, ↓e_ex, e_rt, e_nx, e_ex, l_nx, l_ct, l_bk, l_rt, l_ex, k_add, k_sub, k_mul, k_div, k_mod, k_pow, k_neg, k_cmp, k_eqi, k_nei, k_divmod, k_gcd, k_abs, i_tup, i_lst, i_ro, lo_lst, st_lst, st_ro, st_tup, o_some, o_none, o_map, o_ite, c_true, b_true, b_false, f_nx, f_rt, f_bk, f_ct, f_ex, boolD_bl, intD_int, two_two, w_ok, bx_turn, bx_cells, bx_put, bx_lenc, bx_ix, bx_sub, List.getElem?_cons_zero, List.getElem?_cons_succ, List.getElem?_nil, List.set_cons_zero, List.set_cons_succ, List.map_cons, List.map_nil, List.replicate_succ, List.replicate_zero, List.cons_append, List.nil_append, List.length_cons, List.length_nil, szl, isa_int_non, isa_int_bl, isa_int_int, isa_int_str, isa_int_tup, isa_int_lst, isa_int_ro, isa_bool_non, isa_bool_bl, isa_bool_int, isa_bool_str, isa_bool_tup, isa_bool_lst, isa_bool_ro, isa_tuple_non, isa_tuple_bl, isa_tuple_int, isa_tuple_str, isa_tuple_tup, isa_tuple_lst, isa_tuple_ro, isa_list_non, isa_list_bl, isa_list_int, isa_list_str, isa_list_tup, isa_list_lst, isa_list_ro, isa_str_non, isa_str_bl, isa_str_int, isa_str_str, isa_str_tup, isa_str_lst, isa_str_ro, isl_non, isl_bl, isl_int, isl_str, isl_tup, isl_lst, isl_ro, Nat.zero_add, Nat.reduceAdd, Nat.reduceSub, Nat.reduceLeDiff, Nat.reduceLT, Nat.reducePow, Int.reduceNeg, decide_true, decide_false, Bool.not_true, Bool.not_false, Int.reduceToNat, Int.reducePow, Int.reduceAdd, Int.reduceSub, Int.reduceMul, nco, eq_self, Int.reduceEq, Int.reduceLT, Int.reduceLE, w_run1, w_run2, w_run3, fl_tup, fl_lst, ix_tup0, ix_tup1, Bool.false_eq_true, reduceCtorEq, ↓w_comp0, ↓w_comp1, wipe0, wipe1, fall_lst, bools0, bools1, Option.map_some, List.all_cons, List.all_nil, id, Bool.and_true, Bool.and_false, Bool.true_and, Bool.false_and, ↓t_rt, ↓t_nx, t_rt, t_nx, kz_int, kz_div, kz_isn0, kz_isn1, kz_isn2, kz_isn3, w_raise0, kz_isl1, kz_isl2, kz_isl3, kz_isb1, fr_t, fr_l, gfl_lst])
      exact q
    · rw [if_neg (of_decide_eq_false h)] at q
      (try simp only [↓w_ok, ↓w_exc, ↓w_bad, ↓w_bnd, ↓w_ret, ↓w_badm, ↓w_lift, ↓o_some, ↓o_none, ↓o_map, ↓o_ite, ↓c_true, ↓b_true, ↓b_false, ↓f_nx, ↓f_rt, ↓f_bk, ↓f_ct, ↓f_ex, ↓w_var, ↓w_c, ↓w_c2, ↓w_c1, ↓w_cN, ↓w_nil, ↓w_cons, ↓w_tup, ↓w_lst, ↓w_frz, ↓w_own, ↓w_call, ↓w_no, ↓w_part, ↓w_sl, ↓w_tB, ↓w_tAnd, ↓w_tOr, ↓w_tNot, ↓w_tYes, ↓w_vAnd, ↓w_vOr, ↓w_vNot, ↓w_if, ↓w_pNil, ↓w_pCons, ↓w_dict, ↓w_lc, ↓w_iSeq, ↓w_iRng, ↓w_next, ↓w_seq, ↓w_do, ↓w_sret, ↓w_sretN, ↓w_drop, ↓w_sif, ↓w_brk, ↓w_cnt, ↓w_asg, ↓w_nm, ↓w_gnil, ↓w_gcons, ↓w_gseq, ↓w_gsub, ↓w_par, ↓w_for, ↓w_dput, ↓w_app, ↓l_nx, ↓l_ct, ↓l_bk, ↓l_rt, ↓l_ex, ↓w_loop0, ↓w_run1, ↓w_run2, ↓w_run3, ↓e_rt, ↓e_nx, ↓e_ex, e_rt, e_nx, e_ex, l_nx, l_ct, l_bk, l_rt, l_ex, k_add, k_sub, k_mul, k_div, k_mod, k_pow, k_neg, k_cmp, k_eqi, k_nei, k_divmod, k_gcd, k_abs, i_tup, i_lst, i_ro, lo_lst, st_lst, st_ro, st_tup, o_some, o_none, o_map, o_ite, c_true, b_true, b_false, f_nx, f_rt, f_bk, f_ct, f_ex, boolD_bl, intD_int, two_two, w_ok, bx_turn, bx_cells, bx_put, bx_lenc, bx_ix, bx_sub, List.getElem?_cons_zero, List.getElem?_cons_succ, List.getElem?_nil, List.set_cons_zero, List.set_cons_succ, List.map_cons, List.map_nil, List.replicate_succ, List.replicate_zero, List.cons_append, List.nil_append, List.length_cons, List.length_nil, szl, isa_int_non, isa_int_bl, isa_int_int, isa_int_str, isa_int_tup, isa_int_lst, isa_int_ro, isa_bool_non, isa_bool_bl, isa_bool_int, isa_bool_str, isa_bool_tup, isa_bool_lst, isa_bool_ro, isa_tuple_non, isa_tuple_bl, isa_tuple_int, isa_tuple_str, isa_tuple_tup, isa_tuple_lst, isa_tuple_ro, isa_list_non, isa_list_bl, isa_list_int, isa_list_str, isa_list_tup, isa_list_lst, isa_list_ro, isa_str_non, isa_str_bl, isa_str_int, isa_str_str, isa_str_tup, isa_str_lst, isa_str_ro, isl_non, isl_bl, isl_int, isl_str, isl_tup, isl_lst, isl_ro, Nat.zero_add, Nat.reduceAdd, Nat.reduceSub, Nat.reduceLeDiff, Nat.reduceLT, Nat.reducePow, Int.reduceNeg, decide_true, decide_false, Bool.not_true, Bool.not_false, Int.reduceToNat, Int.reducePow, Int.reduceAdd, Int.reduceSub, Int.reduceMul, nco, eq_self, Int.reduceEq, Int.reduceLT, Int.reduceLE, w_run1, w_run2, w_run3, fl_tup, fl_lst, ix_tup0, ix_tup1, Bool.false_eq_true, reduceCtorEq, ↓w_comp0, ↓w_comp1, wipe0, wipe1, fall_lst, bools0, bools1, Option.map_some, List.all_cons, List.all_nil, id, Bool.and_true, Bool.and_false, Bool.true_and, Bool.false_and, ↓t_rt, ↓t_nx, t_rt, t_nx, kz_int, kz_div, kz_isn0, kz_isn1, kz_isn2, kz_isn3, w_raise0, kz_isl1, kz_isl2, kz_isl3, kz_isb1, fr_t, fr_l, gfl_lst])
      refine wb_i (fun h => ?_) (fun h => ?_)
      · rw [if_pos (of_decide_eq_true h)] at q
        (try simp only [↓w_ok, ↓w_exc, ↓w_bad, ↓w_bnd, ↓w_ret, ↓w_badm, ↓w_lift, ↓o_some, ↓o_none, ↓o_map, ↓o_ite, ↓c_true, ↓b_true, ↓b_false, ↓f_nx, ↓f_rt, ↓f_bk, ↓f_ct, ↓f_ex, ↓w_var, ↓w_c, ↓w_c2, ↓w_c1, ↓w_cN, ↓w_nil, ↓w_cons, ↓w_tup, ↓w_lst, ↓w_frz, ↓w_own, ↓w_call, ↓w_no, ↓w_part, ↓w_sl, ↓w_tB, ↓w_tAnd, ↓w_tOr, ↓w_tNot, ↓w_tYes, ↓w_vAnd, ↓w_vOr, ↓w_vNot, ↓w_if, ↓w_pNil, ↓w_pCons, ↓w_dict, ↓w_lc, ↓w_iSeq, ↓w_iRng, ↓w_next, ↓w_seq, ↓w_do, ↓w_sret, ↓w_sretN, ↓w_drop, ↓w_sif, ↓w_brk, ↓w_cnt, ↓w_asg, ↓w_nm, ↓w_gnil, ↓w_gcons, ↓w_gseq, ↓w_gsub, ↓w_par, ↓w_for, ↓w_dput, ↓w_app, ↓l_nx, ↓l_ct, ↓l_bk, ↓l_rt, ↓l_ex, ↓w_loop0, ↓w_run1, ↓w_run2, ↓w_run3, ↓e_rt, ↓e_nx, ↓e_ex, e_rt, e_nx, e_ex, l_nx, l_ct, l_bk, l_rt, l_ex, k_add, k_sub, k_mul, k_div, k_mod, k_pow, k_neg, k_cmp, k_eqi, k_nei, k_divmod, k_gcd, k_abs, i_tup, i_lst, i_ro, lo_lst, st_lst, st_ro, st_tup, o_some, o_none, o_map, o_ite, c_true, b_true, b_false, f_nx, f_rt, f_bk, f_ct, f_ex, boolD_bl, intD_int, two_two, w_ok, bx_turn, bx_cells, bx_put, bx_lenc, bx_ix, bx_sub, List.getElem?_cons_zero, List.getElem?_cons_succ, List.getElem?_nil, List.set_cons_zero, List.set_cons_succ, List.map_cons, List.map_nil, List.replicate_succ, List.replicate_zero, List.cons_append, List.nil_append, List.length_cons, List.length_nil, szl, isa_int_non, isa_int_bl, isa_int_int, isa_int_str, isa_int_tup, isa_int_lst, isa_int_ro, isa_bool_non, isa_bool_bl, isa_bool_int, isa_bool_str, isa_bool_tup, isa_bool_lst, isa_bool_ro, isa_tuple_non, isa_tuple_bl, isa_tuple_int, isa_tuple_str, isa_tuple_tup, isa_tuple_lst, isa_tuple_ro, isa_list_non, isa_list_bl, isa_list_int, isa_list_str, isa_list_tup, isa_list_lst, isa_list_ro, isa_str_non, isa_str_bl, isa_str_int, isa_str_str, isa_str_tup, isa_str_lst, isa_str_ro, isl_non, isl_bl, isl_int, isl_str, isl_tup, isl_lst, isl_ro, Nat.zero_add, Nat.reduceAdd, Nat.reduceSub, Nat.reduceLeDiff, Nat.reduceLT, Nat.reducePow, Int.reduceNeg, decide_true, decide_false, Bool.not_true, Bool.not_false, Int.reduceToNat, Int.reducePow, Int.reduceAdd, Int.reduceSub, Int.reduceMul, nco, eq_self, Int.reduceEq, Int.reduceLT, Int.reduceLE, w_run1, w_run2, w_run3, fl_tup, fl_lst, ix_tup0, ix_tup1, Bool.false_eq_true, reduceCtorEq, ↓w_comp0, ↓w_comp1, wipe0, wipe1, fall_lst, bools0, bools1, Option.map_some, List.all_cons, List.all_nil, id, Bool.and_true, Bool.and_false, Bool.true_and, Bool.false_and, ↓t_rt, ↓t_nx, t_rt, t_nx, kz_int, kz_div, kz_isn0, kz_isn1, kz_isn2, kz_isn3, w_raise0, kz_isl1, kz_isl2, kz_isl3, kz_isb1, fr_t, fr_l, gfl_lst])
        exact q
      · rw [if_neg (of_decide_eq_false h)] at q
        (try simp only [↓w_ok, ↓w_exc, ↓w_bad, ↓w_bnd, ↓w_ret, ↓w_badm, ↓w_lift, ↓o_some, ↓o_none, ↓o_map, ↓o_ite, ↓c_true, ↓b_true, ↓b_false, ↓f_nx, ↓f_rt, ↓f_bk, ↓f_ct, ↓f_ex, ↓w_var, ↓w_c, ↓w_c2, ↓w_c1, ↓w_cN, ↓w_nil, ↓w_cons, ↓w_tup, ↓w_lst, ↓w_frz, ↓w_own, ↓w_call, ↓w_no, ↓w_part, ↓w_sl, ↓w_tB, ↓w_tAnd, ↓w_tOr, ↓w_tNot, ↓w_tYes, ↓w_vAnd, ↓w_vOr, ↓w_vNot, ↓w_if, ↓w_pNil, ↓w_pCons, ↓w_dict, ↓w_lc, ↓w_iSeq, ↓w_iRng, ↓w_next, ↓w_seq, ↓w_do, ↓w_sret, ↓w_sretN, ↓w_drop, ↓w_sif, ↓w_brk, ↓w_cnt, ↓w_asg, ↓w_nm, ↓w_gnil, ↓w_gcons, ↓w_gseq, ↓w_gsub, ↓w_par, ↓w_for, ↓w_dput, ↓w_app, ↓l_nx, ↓l_ct, ↓l_bk, ↓l_rt, ↓l_ex, ↓w_loop0, ↓w_run1, ↓w_run2, ↓w_run3, ↓e_rt, ↓e_nx, ↓e_ex, e_rt, e_nx, e_ex, l_nx, l_ct, l_bk, l_rt, l_ex, k_add, k_sub, k_mul, k_div, k_mod, k_pow, k_neg, k_cmp, k_eqi, k_nei, k_divmod, k_gcd, k_abs, i_tup, i_lst, i_ro, lo_lst, st_lst, st_ro, st_tup, o_some, o_none, o_map, o_ite, c_true, b_true, b_false, f_nx, f_rt, f_bk, f_ct, f_ex, boolD_bl, intD_int, two_two, w_ok, bx_turn, bx_cells, bx_put, bx_lenc, bx_ix, bx_sub, List.getElem?_cons_zero, List.getElem?_cons_succ, List.getElem?_nil, List.set_cons_zero, List.set_cons_succ, List.map_cons, List.map_nil, List.replicate_succ, List.replicate_zero, List.cons_append, List.nil_append, List.length_cons, List.length_nil, szl, isa_int_non, isa_int_bl, isa_int_int, isa_int_str, isa_int_tup, isa_int_lst, isa_int_ro, isa_bool_non, isa_bool_bl, isa_bool_int, isa_bool_str, isa_bool_tup, isa_bool_lst, isa_bool_ro, isa_tuple_non, isa_tuple_bl, isa_tuple_int, isa_tuple_str, isa_tuple_tup, isa_tuple_lst, isa_tuple_ro, isa_list_non, isa_list_bl, isa_list_int, isa_list_str, isa_list_tup, isa_list_lst, isa_list_ro, isa_str_non, isa_str_bl, isa_str_int, isa_str_str, isa_str_tup, isa_str_lst, isa_str_ro, isl_non, isl_bl, isl_int, isl_str, isl_tup, isl_lst, isl_ro, Nat.zero_add, Nat.reduceAdd, Nat.reduceSub, Nat.reduceLeDiff, Nat.reduceLT, Nat.reducePow, Int.reduceNeg, decide_true, decide_false, Bool.not_true, Bool.not_false, Int.reduceToNat, Int.reducePow, Int.reduceAdd, Int.reduceSub, Int.reduceMul, nco, eq_self, Int.reduceEq, Int.reduceLT, Int.reduceLE, w_run1, w_run2, w_run3, fl_tup, fl_lst, ix_tup0, ix_tup1, Bool.false_eq_true, reduceCtorEq, ↓w_comp0, ↓w_comp1, wipe0, wipe1, fall_lst, bools0, bools1, Option.map_some, List.all_cons, List.all_nil, id, Bool.and_true, Bool.and_false, Bool.true_and, Bool.false_and, ↓t_rt, ↓t_nx, t_rt, t_nx, kz_int, kz_div, kz_isn0, kz_isn1, kz_isn2, kz_isn3, w_raise0, kz_isl1, kz_isl2, kz_isl3, kz_isb1, fr_t, fr_l, gfl_lst])
        exact q
theorem wp_comp (ha : a.natAbs < 2 ^ 100) (hb : b.natAbs < 2 ^ 100) (hc : c.natAbs < 2 ^ 100) (hd : d.natAbs < 2 ^ 100) (hb0 : b ≠ 0) (hd0 : d ≠ 0) {x y : Int} (e : lowD (a * d - c * b) (b * d) = .tup [.int x, .int y]) (q : P (.int (sgn x)) st) : wp P E u (Gk02.m_compared [fr k a b, fr k c d] st) := by
  unfold Gk02.m_compared
  (try simp only [↓w_ok, ↓w_exc, ↓w_bad, ↓w_bnd, ↓w_ret, ↓w_badm, ↓w_lift, ↓o_some, ↓o_none, ↓o_map, ↓o_ite, ↓c_true, ↓b_true, ↓b_false, ↓f_nx, ↓f_rt, ↓f_bk, ↓f_ct, ↓f_ex, ↓w_var, ↓w_c, ↓w_c2, ↓w_c1, ↓w_cN, ↓w_nil, ↓w_cons, ↓w_tup, ↓w_lst, ↓w_frz, ↓w_own, ↓w_call, ↓w_no, ↓w_part, ↓w_sl, ↓w_tB, ↓w_tAnd, ↓w_tOr, ↓w_tNot, ↓w_tYes, ↓w_vAnd, ↓w_vOr, ↓w_vNot, ↓w_if, ↓w_pNil, ↓w_pCons, ↓w_dict, ↓w_lc, ↓w_iSeq, ↓w_iRng, ↓w_next, ↓w_seq, ↓w_do, ↓w_sret, ↓w_sretN, ↓w_drop, ↓w_sif, ↓w_brk, ↓w_cnt, ↓w_asg, ↓w_nm, ↓w_gnil, ↓w_gcons, ↓w_gseq, ↓w_gsub, ↓w_par, ↓w_for, ↓w_dput, ↓w_app, ↓l_nx, ↓l_ct, ↓l_bk, ↓l_rt, ↓l_ex, ↓w_loop0, ↓w_run1, ↓w_run2, ↓w_run3, ↓e_rt, ↓e_nx, ↓e_ex, e_rt, e_nx, e_ex, l_nx, l_ct, l_bk, l_rt, l_ex, k_add, k_sub, k_mul, k_div, k_mod, k_pow, k_neg, k_cmp, k_eqi, k_nei, k_divmod, k_gcd, k_abs, i_tup, i_lst, i_ro, lo_lst, st_lst, st_ro, st_tup, o_some, o_none, o_map, o_ite, c_true, b_true, b_false, f_nx, f_rt, f_bk, f_ct, f_ex, boolD_bl, intD_int, two_two, w_ok, bx_turn, bx_cells, bx_put, bx_lenc, bx_ix, bx_sub, List.getElem?_cons_zero, List.getElem?_cons_succ, List.getElem?_nil, List.set_cons_zero, List.set_cons_succ, List.map_cons, List.map_nil, List.replicate_succ, List.replicate_zero, List.cons_append, List.nil_append, List.length_cons, List.length_nil, szl, isa_int_non, isa_int_bl, isa_int_int, isa_int_str, isa_int_tup, isa_int_lst, isa_int_ro, isa_bool_non, isa_bool_bl, isa_bool_int, isa_bool_str, isa_bool_tup, isa_bool_lst, isa_bool_ro, isa_tuple_non, isa_tuple_bl, isa_tuple_int, isa_tuple_str, isa_tuple_tup, isa_tuple_lst, isa_tuple_ro, isa_list_non, isa_list_bl, isa_list_int, isa_list_str, isa_list_tup, isa_list_lst, isa_list_ro, isa_str_non, isa_str_bl, isa_str_int, isa_str_str, isa_str_tup, isa_str_lst, isa_str_ro, isl_non, isl_bl, isl_int, isl_str, isl_tup, isl_lst, isl_ro, Nat.zero_add, Nat.reduceAdd, Nat.reduceSub, Nat.reduceLeDiff, Nat.reduceLT, Nat.reducePow, Int.reduceNeg, decide_true, decide_false, Bool.not_true, Bool.not_false, Int.reduceToNat, Int.reducePow, Int.reduceAdd, Int.reduceSub, Int.reduceMul, nco, eq_self, Int.reduceEq, Int.reduceLT, Int.reduceLE, w_run1, w_run2, w_run3, fl_tup, fl_lst, ix_tup0, ix_tup1, Bool.false_eq_true, reduceCtorEq, ↓w_comp0, ↓w_comp1, wipe0, wipe1, fall_lst, bools0, bools1, Option.map_some, List.all_cons, List.all_nil, id, Bool.and_true, Bool.and_false, Bool.true_and, Bool.false_and, ↓t_rt, ↓t_nx, t_rt, t_nx, kz_int, kz_div, kz_isn0, kz_isn1, kz_isn2, kz_isn3, w_raise0, kz_isl1, kz_isl2, kz_isl3, kz_isb1, fr_t, fr_l, gfl_lst])
  refine wp_less ha hb hc hd hb0 hd0 ?_
  rw [e]
  (try simp only [↓w_ok, ↓w_exc, ↓w_bad, ↓w_bnd, ↓w_ret, ↓w_badm, ↓w_lift, ↓o_some, ↓o_none, ↓o_map, ↓o_ite, ↓c_true, ↓b_true, ↓b_false, ↓f_nx, ↓f_rt, ↓f_bk, ↓f_ct, ↓f_ex, ↓w_var, ↓w_c, ↓w_c2, ↓w_c1, ↓w_cN, ↓w_nil, ↓w_cons, ↓w_tup, ↓w_lst, ↓w_frz, ↓w_own, ↓w_call, ↓w_no, ↓w_part, ↓w_sl, ↓w_tB, ↓w_tAnd, ↓w_tOr, ↓w_tNot, ↓w_tYes, ↓w_vAnd, ↓w_vOr, ↓w_vNot, ↓w_if, ↓w_pNil, ↓w_pCons, ↓w_dict, ↓w_lc, ↓w_iSeq, ↓w_iRng, ↓w_next, ↓w_seq, ↓w_do, ↓w_sret, ↓w_sretN, ↓w_drop, ↓w_sif, ↓w_brk, ↓w_cnt, ↓w_asg, ↓w_nm, ↓w_gnil, ↓w_gcons, ↓w_gseq, ↓w_gsub, ↓w_par, ↓w_for, ↓w_dput, ↓w_app, ↓l_nx, ↓l_ct, ↓l_bk, ↓l_rt, ↓l_ex, ↓w_loop0, ↓w_run1, ↓w_run2, ↓w_run3, ↓e_rt, ↓e_nx, ↓e_ex, e_rt, e_nx, e_ex, l_nx, l_ct, l_bk, l_rt, l_ex, k_add, k_sub, k_mul, k_div, k_mod, k_pow, k_neg, k_cmp, k_eqi, k_nei, k_divmod, k_gcd, k_abs, i_tup, i_lst, i_ro, lo_lst, st_lst, st_ro, st_tup, o_some, o_none, o_map, o_ite, c_true, b_true, b_false, f_nx, f_rt, f_bk, f_ct, f_ex, boolD_bl, intD_int, two_two, w_ok, bx_turn, bx_cells, bx_put, bx_lenc, bx_ix, bx_sub, List.getElem?_cons_zero, List.getElem?_cons_succ, List.getElem?_nil, List.set_cons_zero, List.set_cons_succ, List.map_cons, List.map_nil, List.replicate_succ, List.replicate_zero, List.cons_append, List.nil_append, List.length_cons, List.length_nil, szl, isa_int_non, isa_int_bl, isa_int_int, isa_int_str, isa_int_tup, isa_int_lst, isa_int_ro, isa_bool_non, isa_bool_bl, isa_bool_int, isa_bool_str, isa_bool_tup, isa_bool_lst, isa_bool_ro, isa_tuple_non, isa_tuple_bl, isa_tuple_int, isa_tuple_str, isa_tuple_tup, isa_tuple_lst, isa_tuple_ro, isa_list_non, isa_list_bl, isa_list_int, isa_list_str, isa_list_tup, isa_list_lst, isa_list_ro, isa_str_non, isa_str_bl, isa_str_int, isa_str_str, isa_str_tup, isa_str_lst, isa_str_ro, isl_non, isl_bl, isl_int, isl_str, isl_tup, isl_lst, isl_ro, Nat.zero_add, Nat.reduceAdd, Nat.reduceSub, Nat.reduceLeDiff, Nat.reduceLT, Nat.reducePow, Int.reduceNeg, decide_true, decide_false, Bool.not_true, Bool.not_false, Int.reduceToNat, Int.reducePow, Int.reduceAdd, Int.reduceSub, Int.reduceMul, nco, eq_self, Int.reduceEq, Int.reduceLT, Int.reduceLE, w_run1, w_run2, w_run3, fl_tup, fl_lst, ix_tup0, ix_tup1, Bool.false_eq_true, reduceCtorEq, ↓w_comp0, ↓w_comp1, wipe0, wipe1, fall_lst, bools0, bools1, Option.map_some, List.all_cons, List.all_nil, id, Bool.and_true, Bool.and_false, Bool.true_and, Bool.false_and, ↓t_rt, ↓t_nx, t_rt, t_nx, kz_int, kz_div, kz_isn0, kz_isn1, kz_isn2, kz_isn3, w_raise0, kz_isl1, kz_isl2, kz_isl3, kz_isb1, fr_t, fr_l, gfl_lst])
  refine wp_sign (k := true) (b := y) ?_
  (try simp only [↓w_ok, ↓w_exc, ↓w_bad, ↓w_bnd, ↓w_ret, ↓w_badm, ↓w_lift, ↓o_some, ↓o_none, ↓o_map, ↓o_ite, ↓c_true, ↓b_true, ↓b_false, ↓f_nx, ↓f_rt, ↓f_bk, ↓f_ct, ↓f_ex, ↓w_var, ↓w_c, ↓w_c2, ↓w_c1, ↓w_cN, ↓w_nil, ↓w_cons, ↓w_tup, ↓w_lst, ↓w_frz, ↓w_own, ↓w_call, ↓w_no, ↓w_part, ↓w_sl, ↓w_tB, ↓w_tAnd, ↓w_tOr, ↓w_tNot, ↓w_tYes, ↓w_vAnd, ↓w_vOr, ↓w_vNot, ↓w_if, ↓w_pNil, ↓w_pCons, ↓w_dict, ↓w_lc, ↓w_iSeq, ↓w_iRng, ↓w_next, ↓w_seq, ↓w_do, ↓w_sret, ↓w_sretN, ↓w_drop, ↓w_sif, ↓w_brk, ↓w_cnt, ↓w_asg, ↓w_nm, ↓w_gnil, ↓w_gcons, ↓w_gseq, ↓w_gsub, ↓w_par, ↓w_for, ↓w_dput, ↓w_app, ↓l_nx, ↓l_ct, ↓l_bk, ↓l_rt, ↓l_ex, ↓w_loop0, ↓w_run1, ↓w_run2, ↓w_run3, ↓e_rt, ↓e_nx, ↓e_ex, e_rt, e_nx, e_ex, l_nx, l_ct, l_bk, l_rt, l_ex, k_add, k_sub, k_mul, k_div, k_mod, k_pow, k_neg, k_cmp, k_eqi, k_nei, k_divmod, k_gcd, k_abs, i_tup, i_lst, i_ro, lo_lst, st_lst, st_ro, st_tup, o_some, o_none, o_map, o_ite, c_true, b_true, b_false, f_nx, f_rt, f_bk, f_ct, f_ex, boolD_bl, intD_int, two_two, w_ok, bx_turn, bx_cells, bx_put, bx_lenc, bx_ix, bx_sub, List.getElem?_cons_zero, List.getElem?_cons_succ, List.getElem?_nil, List.set_cons_zero, List.set_cons_succ, List.map_cons, List.map_nil, List.replicate_succ, List.replicate_zero, List.cons_append, List.nil_append, List.length_cons, List.length_nil, szl, isa_int_non, isa_int_bl, isa_int_int, isa_int_str, isa_int_tup, isa_int_lst, isa_int_ro, isa_bool_non, isa_bool_bl, isa_bool_int, isa_bool_str, isa_bool_tup, isa_bool_lst, isa_bool_ro, isa_tuple_non, isa_tuple_bl, isa_tuple_int, isa_tuple_str, isa_tuple_tup, isa_tuple_lst, isa_tuple_ro, isa_list_non, isa_list_bl, isa_list_int, isa_list_str, isa_list_tup, isa_list_lst, isa_list_ro, isa_str_non, isa_str_bl, isa_str_int, isa_str_str, isa_str_tup, isa_str_lst, isa_str_ro, isl_non, isl_bl, isl_int, isl_str, isl_tup, isl_lst, isl_ro, Nat.zero_add, Nat.reduceAdd, Nat.reduceSub, Nat.reduceLeDiff, Nat.reduceLT, Nat.reducePow, Int.reduceNeg, decide_true, decide_false, Bool.not_true, Bool.not_false, Int.reduceToNat, Int.reducePow, Int.reduceAdd, Int.reduceSub, Int.reduceMul, nco, eq_self, Int.reduceEq, Int.reduceLT, Int.reduceLE, w_run1, w_run2, w_run3, fl_tup, fl_lst, ix_tup0, ix_tup1, Bool.false_eq_true, reduceCtorEq, ↓w_comp0, ↓w_comp1, wipe0, wipe1, fall_lst, bools0, bools1, Option.map_some, List.all_cons, List.all_nil, id, Bool.and_true, Bool.and_false, Bool.true_and, Bool.false_and, ↓t_rt, ↓t_nx, t_rt, t_nx, kz_int, kz_div, kz_isn0, kz_isn1, kz_isn2, kz_isn3, w_raise0, kz_isl1, kz_isl2, kz_isl3, kz_isb1, fr_t, fr_l, gfl_lst])
  exact q
/-! the law's own -/
theorem wp_ladd (ha : a.natAbs < 2 ^ 100) (hb : b.natAbs < 2 ^ 100) (hc : c.natAbs < 2 ^ 100) (hd : d.natAbs < 2 ^ 100) (hb0 : b ≠ 0) (hd0 : d ≠ 0) (q : P (lowD (a * d + c * b) (b * d)) st) : wp P E u (Gk02.m_l_add [.tup [.int a, .int b], .tup [.int c, .int d]] st) := by
  unfold Gk02.m_l_add
  have m1 : CMulW a d = True := eq_true (cm_of (nat_lt a ha) (nat_lt d hd))
  have m2 : CMulW c b = True := eq_true (cm_of (nat_lt c hc) (nat_lt b hb))
  have m3 : CMulW b d = True := eq_true (cm_of (nat_lt b hb) (nat_lt d hd))
  (try simp only [↓w_ok, ↓w_exc, ↓w_bad, ↓w_bnd, ↓w_ret, ↓w_badm, ↓w_lift, ↓o_some, ↓o_none, ↓o_map, ↓o_ite, ↓c_true, ↓b_true, ↓b_false, ↓f_nx, ↓f_rt, ↓f_bk, ↓f_ct, ↓f_ex, ↓w_var, ↓w_c, ↓w_c2, ↓w_c1, ↓w_cN, ↓w_nil, ↓w_cons, ↓w_tup, ↓w_lst, ↓w_frz, ↓w_own, ↓w_call, ↓w_no, ↓w_part, ↓w_sl, ↓w_tB, ↓w_tAnd, ↓w_tOr, ↓w_tNot, ↓w_tYes, ↓w_vAnd, ↓w_vOr, ↓w_vNot, ↓w_if, ↓w_pNil, ↓w_pCons, ↓w_dict, ↓w_lc, ↓w_iSeq, ↓w_iRng, ↓w_next, ↓w_seq, ↓w_do, ↓w_sret, ↓w_sretN, ↓w_drop, ↓w_sif, ↓w_brk, ↓w_cnt, ↓w_asg, ↓w_nm, ↓w_gnil, ↓w_gcons, ↓w_gseq, ↓w_gsub, ↓w_par, ↓w_for, ↓w_dput, ↓w_app, ↓l_nx, ↓l_ct, ↓l_bk, ↓l_rt, ↓l_ex, ↓w_loop0, ↓w_run1, ↓w_run2, ↓w_run3, ↓e_rt, ↓e_nx, ↓e_ex, e_rt, e_nx, e_ex, l_nx, l_ct, l_bk, l_rt, l_ex, k_add, k_sub, k_mul, k_div, k_mod, k_pow, k_neg, k_cmp, k_eqi, k_nei, k_divmod, k_gcd, k_abs, i_tup, i_lst, i_ro, lo_lst, st_lst, st_ro, st_tup, o_some, o_none, o_map, o_ite, c_true, b_true, b_false, f_nx, f_rt, f_bk, f_ct, f_ex, boolD_bl, intD_int, two_two, w_ok, bx_turn, bx_cells, bx_put, bx_lenc, bx_ix, bx_sub, List.getElem?_cons_zero, List.getElem?_cons_succ, List.getElem?_nil, List.set_cons_zero, List.set_cons_succ, List.map_cons, List.map_nil, List.replicate_succ, List.replicate_zero, List.cons_append, List.nil_append, List.length_cons, List.length_nil, szl, isa_int_non, isa_int_bl, isa_int_int, isa_int_str, isa_int_tup, isa_int_lst, isa_int_ro, isa_bool_non, isa_bool_bl, isa_bool_int, isa_bool_str, isa_bool_tup, isa_bool_lst, isa_bool_ro, isa_tuple_non, isa_tuple_bl, isa_tuple_int, isa_tuple_str, isa_tuple_tup, isa_tuple_lst, isa_tuple_ro, isa_list_non, isa_list_bl, isa_list_int, isa_list_str, isa_list_tup, isa_list_lst, isa_list_ro, isa_str_non, isa_str_bl, isa_str_int, isa_str_str, isa_str_tup, isa_str_lst, isa_str_ro, isl_non, isl_bl, isl_int, isl_str, isl_tup, isl_lst, isl_ro, Nat.zero_add, Nat.reduceAdd, Nat.reduceSub, Nat.reduceLeDiff, Nat.reduceLT, Nat.reducePow, Int.reduceNeg, decide_true, decide_false, Bool.not_true, Bool.not_false, Int.reduceToNat, Int.reducePow, Int.reduceAdd, Int.reduceSub, Int.reduceMul, nco, eq_self, Int.reduceEq, Int.reduceLT, Int.reduceLE, w_run1, w_run2, w_run3, fl_tup, fl_lst, ix_tup0, ix_tup1, Bool.false_eq_true, reduceCtorEq, ↓w_comp0, ↓w_comp1, wipe0, wipe1, fall_lst, bools0, bools1, Option.map_some, List.all_cons, List.all_nil, id, Bool.and_true, Bool.and_false, Bool.true_and, Bool.false_and, ↓t_rt, ↓t_nx, t_rt, t_nx, kz_int, kz_div, kz_isn0, kz_isn1, kz_isn2, kz_isn3, w_raise0, kz_isl1, kz_isl2, kz_isl3, kz_isb1, fr_t, fr_l, gfl_lst, m1, m2, m3])
  refine wp_low (Int.mul_ne_zero hb0 hd0) (add_lt (mul_lt ha hd) (mul_lt hc hb)).1 (nat_lt _ (mul_lt hb hd)) ?_
  (try simp only [↓w_ok, ↓w_exc, ↓w_bad, ↓w_bnd, ↓w_ret, ↓w_badm, ↓w_lift, ↓o_some, ↓o_none, ↓o_map, ↓o_ite, ↓c_true, ↓b_true, ↓b_false, ↓f_nx, ↓f_rt, ↓f_bk, ↓f_ct, ↓f_ex, ↓w_var, ↓w_c, ↓w_c2, ↓w_c1, ↓w_cN, ↓w_nil, ↓w_cons, ↓w_tup, ↓w_lst, ↓w_frz, ↓w_own, ↓w_call, ↓w_no, ↓w_part, ↓w_sl, ↓w_tB, ↓w_tAnd, ↓w_tOr, ↓w_tNot, ↓w_tYes, ↓w_vAnd, ↓w_vOr, ↓w_vNot, ↓w_if, ↓w_pNil, ↓w_pCons, ↓w_dict, ↓w_lc, ↓w_iSeq, ↓w_iRng, ↓w_next, ↓w_seq, ↓w_do, ↓w_sret, ↓w_sretN, ↓w_drop, ↓w_sif, ↓w_brk, ↓w_cnt, ↓w_asg, ↓w_nm, ↓w_gnil, ↓w_gcons, ↓w_gseq, ↓w_gsub, ↓w_par, ↓w_for, ↓w_dput, ↓w_app, ↓l_nx, ↓l_ct, ↓l_bk, ↓l_rt, ↓l_ex, ↓w_loop0, ↓w_run1, ↓w_run2, ↓w_run3, ↓e_rt, ↓e_nx, ↓e_ex, e_rt, e_nx, e_ex, l_nx, l_ct, l_bk, l_rt, l_ex, k_add, k_sub, k_mul, k_div, k_mod, k_pow, k_neg, k_cmp, k_eqi, k_nei, k_divmod, k_gcd, k_abs, i_tup, i_lst, i_ro, lo_lst, st_lst, st_ro, st_tup, o_some, o_none, o_map, o_ite, c_true, b_true, b_false, f_nx, f_rt, f_bk, f_ct, f_ex, boolD_bl, intD_int, two_two, w_ok, bx_turn, bx_cells, bx_put, bx_lenc, bx_ix, bx_sub, List.getElem?_cons_zero, List.getElem?_cons_succ, List.getElem?_nil, List.set_cons_zero, List.set_cons_succ, List.map_cons, List.map_nil, List.replicate_succ, List.replicate_zero, List.cons_append, List.nil_append, List.length_cons, List.length_nil, szl, isa_int_non, isa_int_bl, isa_int_int, isa_int_str, isa_int_tup, isa_int_lst, isa_int_ro, isa_bool_non, isa_bool_bl, isa_bool_int, isa_bool_str, isa_bool_tup, isa_bool_lst, isa_bool_ro, isa_tuple_non, isa_tuple_bl, isa_tuple_int, isa_tuple_str, isa_tuple_tup, isa_tuple_lst, isa_tuple_ro, isa_list_non, isa_list_bl, isa_list_int, isa_list_str, isa_list_tup, isa_list_lst, isa_list_ro, isa_str_non, isa_str_bl, isa_str_int, isa_str_str, isa_str_tup, isa_str_lst, isa_str_ro, isl_non, isl_bl, isl_int, isl_str, isl_tup, isl_lst, isl_ro, Nat.zero_add, Nat.reduceAdd, Nat.reduceSub, Nat.reduceLeDiff, Nat.reduceLT, Nat.reducePow, Int.reduceNeg, decide_true, decide_false, Bool.not_true, Bool.not_false, Int.reduceToNat, Int.reducePow, Int.reduceAdd, Int.reduceSub, Int.reduceMul, nco, eq_self, Int.reduceEq, Int.reduceLT, Int.reduceLE, w_run1, w_run2, w_run3, fl_tup, fl_lst, ix_tup0, ix_tup1, Bool.false_eq_true, reduceCtorEq, ↓w_comp0, ↓w_comp1, wipe0, wipe1, fall_lst, bools0, bools1, Option.map_some, List.all_cons, List.all_nil, id, Bool.and_true, Bool.and_false, Bool.true_and, Bool.false_and, ↓t_rt, ↓t_nx, t_rt, t_nx, kz_int, kz_div, kz_isn0, kz_isn1, kz_isn2, kz_isn3, w_raise0, kz_isl1, kz_isl2, kz_isl3, kz_isb1, fr_t, fr_l, gfl_lst])
  exact q
theorem wp_lmul (ha : a.natAbs < 2 ^ 100) (hb : b.natAbs < 2 ^ 100) (hc : c.natAbs < 2 ^ 100) (hd : d.natAbs < 2 ^ 100) (hb0 : b ≠ 0) (hd0 : d ≠ 0) (q : P (lowD (a * c) (b * d)) st) : wp P E u (Gk02.m_l_mul [.tup [.int a, .int b], .tup [.int c, .int d]] st) := by
  unfold Gk02.m_l_mul
  have m1 : CMulW a c = True := eq_true (cm_of (nat_lt a ha) (nat_lt c hc))
  have m3 : CMulW b d = True := eq_true (cm_of (nat_lt b hb) (nat_lt d hd))
  (try simp only [↓w_ok, ↓w_exc, ↓w_bad, ↓w_bnd, ↓w_ret, ↓w_badm, ↓w_lift, ↓o_some, ↓o_none, ↓o_map, ↓o_ite, ↓c_true, ↓b_true, ↓b_false, ↓f_nx, ↓f_rt, ↓f_bk, ↓f_ct, ↓f_ex, ↓w_var, ↓w_c, ↓w_c2, ↓w_c1, ↓w_cN, ↓w_nil, ↓w_cons, ↓w_tup, ↓w_lst, ↓w_frz, ↓w_own, ↓w_call, ↓w_no, ↓w_part, ↓w_sl, ↓w_tB, ↓w_tAnd, ↓w_tOr, ↓w_tNot, ↓w_tYes, ↓w_vAnd, ↓w_vOr, ↓w_vNot, ↓w_if, ↓w_pNil, ↓w_pCons, ↓w_dict, ↓w_lc, ↓w_iSeq, ↓w_iRng, ↓w_next, ↓w_seq, ↓w_do, ↓w_sret, ↓w_sretN, ↓w_drop, ↓w_sif, ↓w_brk, ↓w_cnt, ↓w_asg, ↓w_nm, ↓w_gnil, ↓w_gcons, ↓w_gseq, ↓w_gsub, ↓w_par, ↓w_for, ↓w_dput, ↓w_app, ↓l_nx, ↓l_ct, ↓l_bk, ↓l_rt, ↓l_ex, ↓w_loop0, ↓w_run1, ↓w_run2, ↓w_run3, ↓e_rt, ↓e_nx, ↓e_ex, e_rt, e_nx, e_ex, l_nx, l_ct, l_bk, l_rt, l_ex, k_add, k_sub, k_mul, k_div, k_mod, k_pow, k_neg, k_cmp, k_eqi, k_nei, k_divmod, k_gcd, k_abs, i_tup, i_lst, i_ro, lo_lst, st_lst, st_ro, st_tup, o_some, o_none, o_map, o_ite, c_true, b_true, b_false, f_nx, f_rt, f_bk, f_ct, f_ex, boolD_bl, intD_int, two_two, w_ok, bx_turn, bx_cells, bx_put, bx_lenc, bx_ix, bx_sub, List.getElem?_cons_zero, List.getElem?_cons_succ, List.getElem?_nil, List.set_cons_zero, List.set_cons_succ, List.map_cons, List.map_nil, List.replicate_succ, List.replicate_zero, List.cons_append, List.nil_append, List.length_cons, List.length_nil, szl, isa_int_non, isa_int_bl, isa_int_int, isa_int_str, isa_int_tup, isa_int_lst, isa_int_ro, isa_bool_non, isa_bool_bl, isa_bool_int, isa_bool_str, isa_bool_tup, isa_bool_lst, isa_bool_ro, isa_tuple_non, isa_tuple_bl, isa_tuple_int, isa_tuple_str, isa_tuple_tup, isa_tuple_lst, isa_tuple_ro, isa_list_non, isa_list_bl, isa_list_int, isa_list_str, isa_list_tup, isa_list_lst, isa_list_ro, isa_str_non, isa_str_bl, isa_str_int, isa_str_str, isa_str_tup, isa_str_lst, isa_str_ro, isl_non, isl_bl, isl_int, isl_str, isl_tup, isl_lst, isl_ro, Nat.zero_add, Nat.reduceAdd, Nat.reduceSub, Nat.reduceLeDiff, Nat.reduceLT, Nat.reducePow, Int.reduceNeg, decide_true, decide_false, Bool.not_true, Bool.not_false, Int.reduceToNat, Int.reducePow, Int.reduceAdd, Int.reduceSub, Int.reduceMul, nco, eq_self, Int.reduceEq, Int.reduceLT, Int.reduceLE, w_run1, w_run2, w_run3, fl_tup, fl_lst, ix_tup0, ix_tup1, Bool.false_eq_true, reduceCtorEq, ↓w_comp0, ↓w_comp1, wipe0, wipe1, fall_lst, bools0, bools1, Option.map_some, List.all_cons, List.all_nil, id, Bool.and_true, Bool.and_false, Bool.true_and, Bool.false_and, ↓t_rt, ↓t_nx, t_rt, t_nx, kz_int, kz_div, kz_isn0, kz_isn1, kz_isn2, kz_isn3, w_raise0, kz_isl1, kz_isl2, kz_isl3, kz_isb1, fr_t, fr_l, gfl_lst, m1, m3])
  refine wp_low (Int.mul_ne_zero hb0 hd0) (nat_lt _ (mul_lt ha hc)) (nat_lt _ (mul_lt hb hd)) ?_
  (try simp only [↓w_ok, ↓w_exc, ↓w_bad, ↓w_bnd, ↓w_ret, ↓w_badm, ↓w_lift, ↓o_some, ↓o_none, ↓o_map, ↓o_ite, ↓c_true, ↓b_true, ↓b_false, ↓f_nx, ↓f_rt, ↓f_bk, ↓f_ct, ↓f_ex, ↓w_var, ↓w_c, ↓w_c2, ↓w_c1, ↓w_cN, ↓w_nil, ↓w_cons, ↓w_tup, ↓w_lst, ↓w_frz, ↓w_own, ↓w_call, ↓w_no, ↓w_part, ↓w_sl, ↓w_tB, ↓w_tAnd, ↓w_tOr, ↓w_tNot, ↓w_tYes, ↓w_vAnd, ↓w_vOr, ↓w_vNot, ↓w_if, ↓w_pNil, ↓w_pCons, ↓w_dict, ↓w_lc, ↓w_iSeq, ↓w_iRng, ↓w_next, ↓w_seq, ↓w_do, ↓w_sret, ↓w_sretN, ↓w_drop, ↓w_sif, ↓w_brk, ↓w_cnt, ↓w_asg, ↓w_nm, ↓w_gnil, ↓w_gcons, ↓w_gseq, ↓w_gsub, ↓w_par, ↓w_for, ↓w_dput, ↓w_app, ↓l_nx, ↓l_ct, ↓l_bk, ↓l_rt, ↓l_ex, ↓w_loop0, ↓w_run1, ↓w_run2, ↓w_run3, ↓e_rt, ↓e_nx, ↓e_ex, e_rt, e_nx, e_ex, l_nx, l_ct, l_bk, l_rt, l_ex, k_add, k_sub, k_mul, k_div, k_mod, k_pow, k_neg, k_cmp, k_eqi, k_nei, k_divmod, k_gcd, k_abs, i_tup, i_lst, i_ro, lo_lst, st_lst, st_ro, st_tup, o_some, o_none, o_map, o_ite, c_true, b_true, b_false, f_nx, f_rt, f_bk, f_ct, f_ex, boolD_bl, intD_int, two_two, w_ok, bx_turn, bx_cells, bx_put, bx_lenc, bx_ix, bx_sub, List.getElem?_cons_zero, List.getElem?_cons_succ, List.getElem?_nil, List.set_cons_zero, List.set_cons_succ, List.map_cons, List.map_nil, List.replicate_succ, List.replicate_zero, List.cons_append, List.nil_append, List.length_cons, List.length_nil, szl, isa_int_non, isa_int_bl, isa_int_int, isa_int_str, isa_int_tup, isa_int_lst, isa_int_ro, isa_bool_non, isa_bool_bl, isa_bool_int, isa_bool_str, isa_bool_tup, isa_bool_lst, isa_bool_ro, isa_tuple_non, isa_tuple_bl, isa_tuple_int, isa_tuple_str, isa_tuple_tup, isa_tuple_lst, isa_tuple_ro, isa_list_non, isa_list_bl, isa_list_int, isa_list_str, isa_list_tup, isa_list_lst, isa_list_ro, isa_str_non, isa_str_bl, isa_str_int, isa_str_str, isa_str_tup, isa_str_lst, isa_str_ro, isl_non, isl_bl, isl_int, isl_str, isl_tup, isl_lst, isl_ro, Nat.zero_add, Nat.reduceAdd, Nat.reduceSub, Nat.reduceLeDiff, Nat.reduceLT, Nat.reducePow, Int.reduceNeg, decide_true, decide_false, Bool.not_true, Bool.not_false, Int.reduceToNat, Int.reducePow, Int.reduceAdd, Int.reduceSub, Int.reduceMul, nco, eq_self, Int.reduceEq, Int.reduceLT, Int.reduceLE, w_run1, w_run2, w_run3, fl_tup, fl_lst, ix_tup0, ix_tup1, Bool.false_eq_true, reduceCtorEq, ↓w_comp0, ↓w_comp1, wipe0, wipe1, fall_lst, bools0, bools1, Option.map_some, List.all_cons, List.all_nil, id, Bool.and_true, Bool.and_false, Bool.true_and, Bool.false_and, ↓t_rt, ↓t_nx, t_rt, t_nx, kz_int, kz_div, kz_isn0, kz_isn1, kz_isn2, kz_isn3, w_raise0, kz_isl1, kz_isl2, kz_isl3, kz_isb1, fr_t, fr_l, gfl_lst])
  exact q
theorem wp_lneg (q : P (.tup [.int (0 - a), .int b]) st) : wp P E u (Gk02.m_l_neg [.tup [.int a, .int b]] st) := by
  unfold Gk02.m_l_neg
  (try simp only [↓w_ok, ↓w_exc, ↓w_bad, ↓w_bnd, ↓w_ret, ↓w_badm, ↓w_lift, ↓o_some, ↓o_none, ↓o_map, ↓o_ite, ↓c_true, ↓b_true, ↓b_false, ↓f_nx, ↓f_rt, ↓f_bk, ↓f_ct, ↓f_ex, ↓w_var, ↓w_c, ↓w_c2, ↓w_c1, ↓w_cN, ↓w_nil, ↓w_cons, ↓w_tup, ↓w_lst, ↓w_frz, ↓w_own, ↓w_call, ↓w_no, ↓w_part, ↓w_sl, ↓w_tB, ↓w_tAnd, ↓w_tOr, ↓w_tNot, ↓w_tYes, ↓w_vAnd, ↓w_vOr, ↓w_vNot, ↓w_if, ↓w_pNil, ↓w_pCons, ↓w_dict, ↓w_lc, ↓w_iSeq, ↓w_iRng, ↓w_next, ↓w_seq, ↓w_do, ↓w_sret, ↓w_sretN, ↓w_drop, ↓w_sif, ↓w_brk, ↓w_cnt, ↓w_asg, ↓w_nm, ↓w_gnil, ↓w_gcons, ↓w_gseq, ↓w_gsub, ↓w_par, ↓w_for, ↓w_dput, ↓w_app, ↓l_nx, ↓l_ct, ↓l_bk, ↓l_rt, ↓l_ex, ↓w_loop0, ↓w_run1, ↓w_run2, ↓w_run3, ↓e_rt, ↓e_nx, ↓e_ex, e_rt, e_nx, e_ex, l_nx, l_ct, l_bk, l_rt, l_ex, k_add, k_sub, k_mul, k_div, k_mod, k_pow, k_neg, k_cmp, k_eqi, k_nei, k_divmod, k_gcd, k_abs, i_tup, i_lst, i_ro, lo_lst, st_lst, st_ro, st_tup, o_some, o_none, o_map, o_ite, c_true, b_true, b_false, f_nx, f_rt, f_bk, f_ct, f_ex, boolD_bl, intD_int, two_two, w_ok, bx_turn, bx_cells, bx_put, bx_lenc, bx_ix, bx_sub, List.getElem?_cons_zero, List.getElem?_cons_succ, List.getElem?_nil, List.set_cons_zero, List.set_cons_succ, List.map_cons, List.map_nil, List.replicate_succ, List.replicate_zero, List.cons_append, List.nil_append, List.length_cons, List.length_nil, szl, isa_int_non, isa_int_bl, isa_int_int, isa_int_str, isa_int_tup, isa_int_lst, isa_int_ro, isa_bool_non, isa_bool_bl, isa_bool_int, isa_bool_str, isa_bool_tup, isa_bool_lst, isa_bool_ro, isa_tuple_non, isa_tuple_bl, isa_tuple_int, isa_tuple_str, isa_tuple_tup, isa_tuple_lst, isa_tuple_ro, isa_list_non, isa_list_bl, isa_list_int, isa_list_str, isa_list_tup, isa_list_lst, isa_list_ro, isa_str_non, isa_str_bl, isa_str_int, isa_str_str, isa_str_tup, isa_str_lst, isa_str_ro, isl_non, isl_bl, isl_int, isl_str, isl_tup, isl_lst, isl_ro, Nat.zero_add, Nat.reduceAdd, Nat.reduceSub, Nat.reduceLeDiff, Nat.reduceLT, Nat.reducePow, Int.reduceNeg, decide_true, decide_false, Bool.not_true, Bool.not_false, Int.reduceToNat, Int.reducePow, Int.reduceAdd, Int.reduceSub, Int.reduceMul, nco, eq_self, Int.reduceEq, Int.reduceLT, Int.reduceLE, w_run1, w_run2, w_run3, fl_tup, fl_lst, ix_tup0, ix_tup1, Bool.false_eq_true, reduceCtorEq, ↓w_comp0, ↓w_comp1, wipe0, wipe1, fall_lst, bools0, bools1, Option.map_some, List.all_cons, List.all_nil, id, Bool.and_true, Bool.and_false, Bool.true_and, Bool.false_and, ↓t_rt, ↓t_nx, t_rt, t_nx, kz_int, kz_div, kz_isn0, kz_isn1, kz_isn2, kz_isn3, w_raise0, kz_isl1, kz_isl2, kz_isl3, kz_isb1, fr_t, fr_l, gfl_lst])
  exact q
end
end PV
end

section
namespace PV
open PySem L2
def sm : Nat → PyData → Bool
  | 0, _ => false
  | n + 1, p => match p with
    | .int _ => true
    | .list xs => decide (xs.length ≤ 1000) && xs.all (sm n)
    | .tuple xs => decide (xs.length ≤ 1000) && xs.all (sm n)
    | _ => false
def zipA : List D → Option (List D)
  | [x, y] => zipOf x y
  | _ => none
section
variable {P : D → Sto → Prop} {E : Exn → Sto → Prop} {u : Dep P E} {st : Sto} {nv : Nv} {L : List D → Sto → Prop} {vL : Dep L E} {xs ys : List D}
theorem w_iZipA {tr : Nv → M (List D)} : wp L E vL (iZipA tr nv st) = wp (fun xs s1 => wo (fun ys => L ys s1) () (zipA xs)) E () (tr nv st) := by
  refine (w_bnd).trans (wp_cong fun xs s1 => ?_)
  match xs with
  | [] => rfl
  | [x] => rfl
  | [x, y] => exact w_lift
  | x :: y :: z :: r => rfl
theorem za_t : zipA [.tup xs, .tup ys] = some (zipD xs ys) := rfl
theorem za_l : zipA [.lst xs, .lst ys] = some (zipD xs ys) := rfl
theorem ne_bl {b : Bool} : dNe st (.bl b) (.bl b) = some (.bl false) := by
  have := dne_of (st := st) (p := .bool b) (q := .bool b) (by simp [gd]) (by simp [PyData.depth]) (by simp [gd]) (by simp [PyData.depth])
  simpa [ofP, PyData.eqv] using this
theorem ff_bl {b : Bool} : dEq st (.bl b) (.bl b) = some (.bl true) := by
  have := deq_of (st := st) (p := .bool b) (q := .bool b) (by simp [gd]) (by simp [PyData.depth]) (by simp [gd]) (by simp [PyData.depth])
  simpa [ofP, PyData.eqv] using this
theorem brep : ∀ n, bools (List.replicate n (.bl true)) = some (List.replicate n true) := by
  intro n
  induction n with
  | zero => rfl
  | succ n ih => rw [List.replicate_succ, bools1, ih]; rfl
theorem arep (n : Nat) : (List.replicate n true).all id = true := by
  induction n with
  | zero => rfl
  | succ n ih => rw [List.replicate_succ, List.all_cons, ih]; rfl
theorem zipD1 {x y : D} : zipD (x :: xs) (y :: ys) = .tup [x, y] :: zipD xs ys := rfl
theorem comp_same {n : Nat} {a b : Option D} (ih : ∀ (p : PyData) {P : D → Sto → Prop} {E : Exn → Sto → Prop} {u : Dep P E}, sm n p = true → P (.bl true) st → wp P E u (Gk02.m_l_same n [ofP p, ofP p] st)) :
    ∀ (ps : List PyData) (k : Nat) (uL : Dep L E), k + ps.length ≤ 1000 → ps.all (sm n) = true → L (List.replicate (k + ps.length) (.bl true)) st →
      wp L E uL (compD (gSeq 2 (gCons (gNm 2) (gCons (gNm 3) gNil))) tYes' (cCall (Gk02.m_l_same n) (aCons (cVar 2) (aCons (cVar 3) aNil))) [a, b, none, none] (List.replicate k (.bl true)) (zipD (ofPs ps) (ofPs ps)) st) := by
  intro ps
  induction ps with
  | nil => intro k uL _ _ q; exact q
  | cons p ps ih2 =>
    intro k uL hl hs q
    simp only [List.length_cons] at hl q
    simp only [List.all_cons, Bool.and_eq_true] at hs
    have e : zipD (ofPs (p :: ps)) (ofPs (p :: ps)) = .tup [ofP p, ofP p] :: zipD (ofPs ps) (ofPs ps) := by
      simp only [ofPs]; rfl
    rw [e, w_comp1]
    have go : ∀ {R : D → Sto → Prop} {F : Exn → Sto → Prop} {v : Dep R F}, R (.bl true) st → wp R F v (Gk02.m_l_same n [ofP p, ofP p] st) := fun h => ih p hs.1 h
    (try simp only [↓w_ok, ↓w_exc, ↓w_bad, ↓w_bnd, ↓w_ret, ↓w_badm, ↓w_lift, ↓o_some, ↓o_none, ↓o_map, ↓o_ite, ↓c_true, ↓b_true, ↓b_false, ↓f_nx, ↓f_rt, ↓f_bk, ↓f_ct, ↓f_ex, ↓w_var, ↓w_c, ↓w_c2, ↓w_c1, ↓w_cN, ↓w_nil, ↓w_cons, ↓w_tup, ↓w_lst, ↓w_frz, ↓w_own, ↓w_call, ↓w_no, ↓w_part, ↓w_sl, ↓w_tB, ↓w_tAnd, ↓w_tOr, ↓w_tNot, ↓w_tYes, ↓w_vAnd, ↓w_vOr, ↓w_vNot, ↓w_if, ↓w_pNil, ↓w_pCons, ↓w_dict, ↓w_lc, ↓w_iSeq, ↓w_iRng, ↓w_next, ↓w_seq, ↓w_do, ↓w_sret, ↓w_sretN, ↓w_drop, ↓w_sif, ↓w_brk, ↓w_cnt, ↓w_asg, ↓w_nm, ↓w_gnil, ↓w_gcons, ↓w_gseq, ↓w_gsub, ↓w_par, ↓w_for, ↓w_dput, ↓w_app, ↓l_nx, ↓l_ct, ↓l_bk, ↓l_rt, ↓l_ex, ↓w_loop0, ↓w_run1, ↓w_run2, ↓w_run3, ↓e_rt, ↓e_nx, ↓e_ex, e_rt, e_nx, e_ex, l_nx, l_ct, l_bk, l_rt, l_ex, k_add, k_sub, k_mul, k_div, k_mod, k_pow, k_neg, k_cmp, k_eqi, k_nei, k_divmod, k_gcd, k_abs, i_tup, i_lst, i_ro, lo_lst, st_lst, st_ro, st_tup, o_some, o_none, o_map, o_ite, c_true, b_true, b_false, f_nx, f_rt, f_bk, f_ct, f_ex, boolD_bl, intD_int, two_two, w_ok, bx_turn, bx_cells, bx_put, bx_lenc, bx_ix, bx_sub, List.getElem?_cons_zero, List.getElem?_cons_succ, List.getElem?_nil, List.set_cons_zero, List.set_cons_succ, List.map_cons, List.map_nil, List.replicate_succ, List.replicate_zero, List.cons_append, List.nil_append, List.length_cons, List.length_nil, szl, isa_int_non, isa_int_bl, isa_int_int, isa_int_str, isa_int_tup, isa_int_lst, isa_int_ro, isa_bool_non, isa_bool_bl, isa_bool_int, isa_bool_str, isa_bool_tup, isa_bool_lst, isa_bool_ro, isa_tuple_non, isa_tuple_bl, isa_tuple_int, isa_tuple_str, isa_tuple_tup, isa_tuple_lst, isa_tuple_ro, isa_list_non, isa_list_bl, isa_list_int, isa_list_str, isa_list_tup, isa_list_lst, isa_list_ro, isa_str_non, isa_str_bl, isa_str_int, isa_str_str, isa_str_tup, isa_str_lst, isa_str_ro, isl_non, isl_bl, isl_int, isl_str, isl_tup, isl_lst, isl_ro, Nat.zero_add, Nat.reduceAdd, Nat.reduceSub, Nat.reduceLeDiff, Nat.reduceLT, Nat.reducePow, Int.reduceNeg, decide_true, decide_false, Bool.not_true, Bool.not_false, Int.reduceToNat, Int.reducePow, Int.reduceAdd, Int.reduceSub, Int.reduceMul, nco, eq_self, Int.reduceEq, Int.reduceLT, Int.reduceLE, w_run1, w_run2, w_run3, fl_tup, fl_lst, ix_tup0, ix_tup1, Bool.false_eq_true, reduceCtorEq, ↓w_comp0, ↓w_comp1, wipe0, wipe1, fall_lst, bools0, bools1, Option.map_some, List.all_cons, List.all_nil, id, Bool.and_true, Bool.and_false, Bool.true_and, Bool.false_and, ↓t_rt, ↓t_nx, t_rt, t_nx, kz_int, kz_div, kz_isn0, kz_isn1, kz_isn2, kz_isn3, w_raise0, kz_isl1, kz_isl2, kz_isl3, kz_isb1, fr_t, fr_l, gfl_lst])
    refine go ?_
    (try simp only [↓w_ok, ↓w_exc, ↓w_bad, ↓w_bnd, ↓w_ret, ↓w_badm, ↓w_lift, ↓o_some, ↓o_none, ↓o_map, ↓o_ite, ↓c_true, ↓b_true, ↓b_false, ↓f_nx, ↓f_rt, ↓f_bk, ↓f_ct, ↓f_ex, ↓w_var, ↓w_c, ↓w_c2, ↓w_c1, ↓w_cN, ↓w_nil, ↓w_cons, ↓w_tup, ↓w_lst, ↓w_frz, ↓w_own, ↓w_call, ↓w_no, ↓w_part, ↓w_sl, ↓w_tB, ↓w_tAnd, ↓w_tOr, ↓w_tNot, ↓w_tYes, ↓w_vAnd, ↓w_vOr, ↓w_vNot, ↓w_if, ↓w_pNil, ↓w_pCons, ↓w_dict, ↓w_lc, ↓w_iSeq, ↓w_iRng, ↓w_next, ↓w_seq, ↓w_do, ↓w_sret, ↓w_sretN, ↓w_drop, ↓w_sif, ↓w_brk, ↓w_cnt, ↓w_asg, ↓w_nm, ↓w_gnil, ↓w_gcons, ↓w_gseq, ↓w_gsub, ↓w_par, ↓w_for, ↓w_dput, ↓w_app, ↓l_nx, ↓l_ct, ↓l_bk, ↓l_rt, ↓l_ex, ↓w_loop0, ↓w_run1, ↓w_run2, ↓w_run3, ↓e_rt, ↓e_nx, ↓e_ex, e_rt, e_nx, e_ex, l_nx, l_ct, l_bk, l_rt, l_ex, k_add, k_sub, k_mul, k_div, k_mod, k_pow, k_neg, k_cmp, k_eqi, k_nei, k_divmod, k_gcd, k_abs, i_tup, i_lst, i_ro, lo_lst, st_lst, st_ro, st_tup, o_some, o_none, o_map, o_ite, c_true, b_true, b_false, f_nx, f_rt, f_bk, f_ct, f_ex, boolD_bl, intD_int, two_two, w_ok, bx_turn, bx_cells, bx_put, bx_lenc, bx_ix, bx_sub, List.getElem?_cons_zero, List.getElem?_cons_succ, List.getElem?_nil, List.set_cons_zero, List.set_cons_succ, List.map_cons, List.map_nil, List.replicate_succ, List.replicate_zero, List.cons_append, List.nil_append, List.length_cons, List.length_nil, szl, isa_int_non, isa_int_bl, isa_int_int, isa_int_str, isa_int_tup, isa_int_lst, isa_int_ro, isa_bool_non, isa_bool_bl, isa_bool_int, isa_bool_str, isa_bool_tup, isa_bool_lst, isa_bool_ro, isa_tuple_non, isa_tuple_bl, isa_tuple_int, isa_tuple_str, isa_tuple_tup, isa_tuple_lst, isa_tuple_ro, isa_list_non, isa_list_bl, isa_list_int, isa_list_str, isa_list_tup, isa_list_lst, isa_list_ro, isa_str_non, isa_str_bl, isa_str_int, isa_str_str, isa_str_tup, isa_str_lst, isa_str_ro, isl_non, isl_bl, isl_int, isl_str, isl_tup, isl_lst, isl_ro, Nat.zero_add, Nat.reduceAdd, Nat.reduceSub, Nat.reduceLeDiff, Nat.reduceLT, Nat.reducePow, Int.reduceNeg, decide_true, decide_false, Bool.not_true, Bool.not_false, Int.reduceToNat, Int.reducePow, Int.reduceAdd, Int.reduceSub, Int.reduceMul, nco, eq_self, Int.reduceEq, Int.reduceLT, Int.reduceLE, w_run1, w_run2, w_run3, fl_tup, fl_lst, ix_tup0, ix_tup1, Bool.false_eq_true, reduceCtorEq, ↓w_comp0, ↓w_comp1, wipe0, wipe1, fall_lst, bools0, bools1, Option.map_some, List.all_cons, List.all_nil, id, Bool.and_true, Bool.and_false, Bool.true_and, Bool.false_and, ↓t_rt, ↓t_nx, t_rt, t_nx, kz_int, kz_div, kz_isn0, kz_isn1, kz_isn2, kz_isn3, w_raise0, kz_isl1, kz_isl2, kz_isl3, kz_isb1, fr_t, fr_l, gfl_lst])
    refine wc_i (by rw [List.length_replicate]; omega) ?_
    have e : List.replicate k (D.bl true) ++ [.bl true] = List.replicate (k + 1) (.bl true) := by rw [List.replicate_succ']
    rw [e]
    exact ih2 (k + 1) () (by omega) hs.2 (by rw [show k + 1 + ps.length = k + (ps.length + 1) by omega]; exact q)
theorem wp_same : ∀ (n : Nat) (p : PyData) {P : D → Sto → Prop} {E : Exn → Sto → Prop} {u : Dep P E}, sm n p = true → P (.bl true) st → wp P E u (Gk02.m_l_same n [ofP p, ofP p] st) := by
  intro n
  induction n with
  | zero => intro p P E u h; simp [sm] at h
  | succ n ih =>
    intro p P E u h q
    unfold sm at h
    have all : ∀ {L : List D → Sto → Prop} {F : Exn → Sto → Prop} {uL : Dep L F} {a b : Option D} (ps : List PyData), (decide (ps.length ≤ 1000) && ps.all (sm n)) = true → L (List.replicate ps.length (.bl true)) st →
        wp L F uL (compD (gSeq 2 (gCons (gNm 2) (gCons (gNm 3) gNil))) tYes' (cCall (Gk02.m_l_same n) (aCons (cVar 2) (aCons (cVar 3) aNil))) [a, b, none, none] [] (zipD (ofPs ps) (ofPs ps)) st) := fun ps h2 q2 => by
      simp only [Bool.and_eq_true, decide_eq_true_eq] at h2
      exact comp_same ih ps 0 _ (by omega) h2.2 (by rw [Nat.zero_add]; exact q2)
    cases p with
    | int i =>
      simp only [ofP]
      unfold Gk02.m_l_same
      (try simp only [↓w_ok, ↓w_exc, ↓w_bad, ↓w_bnd, ↓w_ret, ↓w_badm, ↓w_lift, ↓o_some, ↓o_none, ↓o_map, ↓o_ite, ↓c_true, ↓b_true, ↓b_false, ↓f_nx, ↓f_rt, ↓f_bk, ↓f_ct, ↓f_ex, ↓w_var, ↓w_c, ↓w_c2, ↓w_c1, ↓w_cN, ↓w_nil, ↓w_cons, ↓w_tup, ↓w_lst, ↓w_frz, ↓w_own, ↓w_call, ↓w_no, ↓w_part, ↓w_sl, ↓w_tB, ↓w_tAnd, ↓w_tOr, ↓w_tNot, ↓w_tYes, ↓w_vAnd, ↓w_vOr, ↓w_vNot, ↓w_if, ↓w_pNil, ↓w_pCons, ↓w_dict, ↓w_lc, ↓w_iSeq, ↓w_iRng, ↓w_next, ↓w_seq, ↓w_do, ↓w_sret, ↓w_sretN, ↓w_drop, ↓w_sif, ↓w_brk, ↓w_cnt, ↓w_asg, ↓w_nm, ↓w_gnil, ↓w_gcons, ↓w_gseq, ↓w_gsub, ↓w_par, ↓w_for, ↓w_dput, ↓w_app, ↓l_nx, ↓l_ct, ↓l_bk, ↓l_rt, ↓l_ex, ↓w_loop0, ↓w_run1, ↓w_run2, ↓w_run3, ↓e_rt, ↓e_nx, ↓e_ex, e_rt, e_nx, e_ex, l_nx, l_ct, l_bk, l_rt, l_ex, k_add, k_sub, k_mul, k_div, k_mod, k_pow, k_neg, k_cmp, k_eqi, k_nei, k_divmod, k_gcd, k_abs, i_tup, i_lst, i_ro, lo_lst, st_lst, st_ro, st_tup, o_some, o_none, o_map, o_ite, c_true, b_true, b_false, f_nx, f_rt, f_bk, f_ct, f_ex, boolD_bl, intD_int, two_two, w_ok, bx_turn, bx_cells, bx_put, bx_lenc, bx_ix, bx_sub, List.getElem?_cons_zero, List.getElem?_cons_succ, List.getElem?_nil, List.set_cons_zero, List.set_cons_succ, List.map_cons, List.map_nil, List.replicate_succ, List.replicate_zero, List.cons_append, List.nil_append, List.length_cons, List.length_nil, szl, isa_int_non, isa_int_bl, isa_int_int, isa_int_str, isa_int_tup, isa_int_lst, isa_int_ro, isa_bool_non, isa_bool_bl, isa_bool_int, isa_bool_str, isa_bool_tup, isa_bool_lst, isa_bool_ro, isa_tuple_non, isa_tuple_bl, isa_tuple_int, isa_tuple_str, isa_tuple_tup, isa_tuple_lst, isa_tuple_ro, isa_list_non, isa_list_bl, isa_list_int, isa_list_str, isa_list_tup, isa_list_lst, isa_list_ro, isa_str_non, isa_str_bl, isa_str_int, isa_str_str, isa_str_tup, isa_str_lst, isa_str_ro, isl_non, isl_bl, isl_int, isl_str, isl_tup, isl_lst, isl_ro, Nat.zero_add, Nat.reduceAdd, Nat.reduceSub, Nat.reduceLeDiff, Nat.reduceLT, Nat.reducePow, Int.reduceNeg, decide_true, decide_false, Bool.not_true, Bool.not_false, Int.reduceToNat, Int.reducePow, Int.reduceAdd, Int.reduceSub, Int.reduceMul, nco, eq_self, Int.reduceEq, Int.reduceLT, Int.reduceLE, w_run1, w_run2, w_run3, fl_tup, fl_lst, ix_tup0, ix_tup1, Bool.false_eq_true, reduceCtorEq, ↓w_comp0, ↓w_comp1, wipe0, wipe1, fall_lst, bools0, bools1, Option.map_some, List.all_cons, List.all_nil, id, Bool.and_true, Bool.and_false, Bool.true_and, Bool.false_and, ↓t_rt, ↓t_nx, t_rt, t_nx, kz_int, kz_div, kz_isn0, kz_isn1, kz_isn2, kz_isn3, w_raise0, kz_isl1, kz_isl2, kz_isl3, kz_isb1, fr_t, fr_l, gfl_lst])
      exact q
    | list ps =>
      simp only [ofP]
      unfold Gk02.m_l_same
      (try simp only [↓w_ok, ↓w_exc, ↓w_bad, ↓w_bnd, ↓w_ret, ↓w_badm, ↓w_lift, ↓o_some, ↓o_none, ↓o_map, ↓o_ite, ↓c_true, ↓b_true, ↓b_false, ↓f_nx, ↓f_rt, ↓f_bk, ↓f_ct, ↓f_ex, ↓w_var, ↓w_c, ↓w_c2, ↓w_c1, ↓w_cN, ↓w_nil, ↓w_cons, ↓w_tup, ↓w_lst, ↓w_frz, ↓w_own, ↓w_call, ↓w_no, ↓w_part, ↓w_sl, ↓w_tB, ↓w_tAnd, ↓w_tOr, ↓w_tNot, ↓w_tYes, ↓w_vAnd, ↓w_vOr, ↓w_vNot, ↓w_if, ↓w_pNil, ↓w_pCons, ↓w_dict, ↓w_lc, ↓w_iSeq, ↓w_iRng, ↓w_next, ↓w_seq, ↓w_do, ↓w_sret, ↓w_sretN, ↓w_drop, ↓w_sif, ↓w_brk, ↓w_cnt, ↓w_asg, ↓w_nm, ↓w_gnil, ↓w_gcons, ↓w_gseq, ↓w_gsub, ↓w_par, ↓w_for, ↓w_dput, ↓w_app, ↓l_nx, ↓l_ct, ↓l_bk, ↓l_rt, ↓l_ex, ↓w_loop0, ↓w_run1, ↓w_run2, ↓w_run3, ↓e_rt, ↓e_nx, ↓e_ex, e_rt, e_nx, e_ex, l_nx, l_ct, l_bk, l_rt, l_ex, k_add, k_sub, k_mul, k_div, k_mod, k_pow, k_neg, k_cmp, k_eqi, k_nei, k_divmod, k_gcd, k_abs, i_tup, i_lst, i_ro, lo_lst, st_lst, st_ro, st_tup, o_some, o_none, o_map, o_ite, c_true, b_true, b_false, f_nx, f_rt, f_bk, f_ct, f_ex, boolD_bl, intD_int, two_two, w_ok, bx_turn, bx_cells, bx_put, bx_lenc, bx_ix, bx_sub, List.getElem?_cons_zero, List.getElem?_cons_succ, List.getElem?_nil, List.set_cons_zero, List.set_cons_succ, List.map_cons, List.map_nil, List.replicate_succ, List.replicate_zero, List.cons_append, List.nil_append, List.length_cons, List.length_nil, szl, isa_int_non, isa_int_bl, isa_int_int, isa_int_str, isa_int_tup, isa_int_lst, isa_int_ro, isa_bool_non, isa_bool_bl, isa_bool_int, isa_bool_str, isa_bool_tup, isa_bool_lst, isa_bool_ro, isa_tuple_non, isa_tuple_bl, isa_tuple_int, isa_tuple_str, isa_tuple_tup, isa_tuple_lst, isa_tuple_ro, isa_list_non, isa_list_bl, isa_list_int, isa_list_str, isa_list_tup, isa_list_lst, isa_list_ro, isa_str_non, isa_str_bl, isa_str_int, isa_str_str, isa_str_tup, isa_str_lst, isa_str_ro, isl_non, isl_bl, isl_int, isl_str, isl_tup, isl_lst, isl_ro, Nat.zero_add, Nat.reduceAdd, Nat.reduceSub, Nat.reduceLeDiff, Nat.reduceLT, Nat.reducePow, Int.reduceNeg, decide_true, decide_false, Bool.not_true, Bool.not_false, Int.reduceToNat, Int.reducePow, Int.reduceAdd, Int.reduceSub, Int.reduceMul, nco, eq_self, Int.reduceEq, Int.reduceLT, Int.reduceLE, w_run1, w_run2, w_run3, fl_tup, fl_lst, ix_tup0, ix_tup1, Bool.false_eq_true, reduceCtorEq, ↓w_comp0, ↓w_comp1, wipe0, wipe1, fall_lst, bools0, bools1, Option.map_some, List.all_cons, List.all_nil, id, Bool.and_true, Bool.and_false, Bool.true_and, Bool.false_and, ↓t_rt, ↓t_nx, t_rt, t_nx, kz_int, kz_div, kz_isn0, kz_isn1, kz_isn2, kz_isn3, w_raise0, kz_isl1, kz_isl2, kz_isl3, kz_isb1, fr_t, fr_l, gfl_lst, ne_bl, w_iZipA, za_l])
      refine all ps h ?_
      (try simp only [↓w_ok, ↓w_exc, ↓w_bad, ↓w_bnd, ↓w_ret, ↓w_badm, ↓w_lift, ↓o_some, ↓o_none, ↓o_map, ↓o_ite, ↓c_true, ↓b_true, ↓b_false, ↓f_nx, ↓f_rt, ↓f_bk, ↓f_ct, ↓f_ex, ↓w_var, ↓w_c, ↓w_c2, ↓w_c1, ↓w_cN, ↓w_nil, ↓w_cons, ↓w_tup, ↓w_lst, ↓w_frz, ↓w_own, ↓w_call, ↓w_no, ↓w_part, ↓w_sl, ↓w_tB, ↓w_tAnd, ↓w_tOr, ↓w_tNot, ↓w_tYes, ↓w_vAnd, ↓w_vOr, ↓w_vNot, ↓w_if, ↓w_pNil, ↓w_pCons, ↓w_dict, ↓w_lc, ↓w_iSeq, ↓w_iRng, ↓w_next, ↓w_seq, ↓w_do, ↓w_sret, ↓w_sretN, ↓w_drop, ↓w_sif, ↓w_brk, ↓w_cnt, ↓w_asg, ↓w_nm, ↓w_gnil, ↓w_gcons, ↓w_gseq, ↓w_gsub, ↓w_par, ↓w_for, ↓w_dput, ↓w_app, ↓l_nx, ↓l_ct, ↓l_bk, ↓l_rt, ↓l_ex, ↓w_loop0, ↓w_run1, ↓w_run2, ↓w_run3, ↓e_rt, ↓e_nx, ↓e_ex, e_rt, e_nx, e_ex, l_nx, l_ct, l_bk, l_rt, l_ex, k_add, k_sub, k_mul, k_div, k_mod, k_pow, k_neg, k_cmp, k_eqi, k_nei, k_divmod, k_gcd, k_abs, i_tup, i_lst, i_ro, lo_lst, st_lst, st_ro, st_tup, o_some, o_none, o_map, o_ite, c_true, b_true, b_false, f_nx, f_rt, f_bk, f_ct, f_ex, boolD_bl, intD_int, two_two, w_ok, bx_turn, bx_cells, bx_put, bx_lenc, bx_ix, bx_sub, List.getElem?_cons_zero, List.getElem?_cons_succ, List.getElem?_nil, List.set_cons_zero, List.set_cons_succ, List.map_cons, List.map_nil, List.replicate_succ, List.replicate_zero, List.cons_append, List.nil_append, List.length_cons, List.length_nil, szl, isa_int_non, isa_int_bl, isa_int_int, isa_int_str, isa_int_tup, isa_int_lst, isa_int_ro, isa_bool_non, isa_bool_bl, isa_bool_int, isa_bool_str, isa_bool_tup, isa_bool_lst, isa_bool_ro, isa_tuple_non, isa_tuple_bl, isa_tuple_int, isa_tuple_str, isa_tuple_tup, isa_tuple_lst, isa_tuple_ro, isa_list_non, isa_list_bl, isa_list_int, isa_list_str, isa_list_tup, isa_list_lst, isa_list_ro, isa_str_non, isa_str_bl, isa_str_int, isa_str_str, isa_str_tup, isa_str_lst, isa_str_ro, isl_non, isl_bl, isl_int, isl_str, isl_tup, isl_lst, isl_ro, Nat.zero_add, Nat.reduceAdd, Nat.reduceSub, Nat.reduceLeDiff, Nat.reduceLT, Nat.reducePow, Int.reduceNeg, decide_true, decide_false, Bool.not_true, Bool.not_false, Int.reduceToNat, Int.reducePow, Int.reduceAdd, Int.reduceSub, Int.reduceMul, nco, eq_self, Int.reduceEq, Int.reduceLT, Int.reduceLE, w_run1, w_run2, w_run3, fl_tup, fl_lst, ix_tup0, ix_tup1, Bool.false_eq_true, reduceCtorEq, ↓w_comp0, ↓w_comp1, wipe0, wipe1, fall_lst, bools0, bools1, Option.map_some, List.all_cons, List.all_nil, id, Bool.and_true, Bool.and_false, Bool.true_and, Bool.false_and, ↓t_rt, ↓t_nx, t_rt, t_nx, kz_int, kz_div, kz_isn0, kz_isn1, kz_isn2, kz_isn3, w_raise0, kz_isl1, kz_isl2, kz_isl3, kz_isb1, fr_t, fr_l, gfl_lst, brep, arep])
      exact q
    | tuple ps =>
      simp only [ofP]
      unfold Gk02.m_l_same
      (try simp only [↓w_ok, ↓w_exc, ↓w_bad, ↓w_bnd, ↓w_ret, ↓w_badm, ↓w_lift, ↓o_some, ↓o_none, ↓o_map, ↓o_ite, ↓c_true, ↓b_true, ↓b_false, ↓f_nx, ↓f_rt, ↓f_bk, ↓f_ct, ↓f_ex, ↓w_var, ↓w_c, ↓w_c2, ↓w_c1, ↓w_cN, ↓w_nil, ↓w_cons, ↓w_tup, ↓w_lst, ↓w_frz, ↓w_own, ↓w_call, ↓w_no, ↓w_part, ↓w_sl, ↓w_tB, ↓w_tAnd, ↓w_tOr, ↓w_tNot, ↓w_tYes, ↓w_vAnd, ↓w_vOr, ↓w_vNot, ↓w_if, ↓w_pNil, ↓w_pCons, ↓w_dict, ↓w_lc, ↓w_iSeq, ↓w_iRng, ↓w_next, ↓w_seq, ↓w_do, ↓w_sret, ↓w_sretN, ↓w_drop, ↓w_sif, ↓w_brk, ↓w_cnt, ↓w_asg, ↓w_nm, ↓w_gnil, ↓w_gcons, ↓w_gseq, ↓w_gsub, ↓w_par, ↓w_for, ↓w_dput, ↓w_app, ↓l_nx, ↓l_ct, ↓l_bk, ↓l_rt, ↓l_ex, ↓w_loop0, ↓w_run1, ↓w_run2, ↓w_run3, ↓e_rt, ↓e_nx, ↓e_ex, e_rt, e_nx, e_ex, l_nx, l_ct, l_bk, l_rt, l_ex, k_add, k_sub, k_mul, k_div, k_mod, k_pow, k_neg, k_cmp, k_eqi, k_nei, k_divmod, k_gcd, k_abs, i_tup, i_lst, i_ro, lo_lst, st_lst, st_ro, st_tup, o_some, o_none, o_map, o_ite, c_true, b_true, b_false, f_nx, f_rt, f_bk, f_ct, f_ex, boolD_bl, intD_int, two_two, w_ok, bx_turn, bx_cells, bx_put, bx_lenc, bx_ix, bx_sub, List.getElem?_cons_zero, List.getElem?_cons_succ, List.getElem?_nil, List.set_cons_zero, List.set_cons_succ, List.map_cons, List.map_nil, List.replicate_succ, List.replicate_zero, List.cons_append, List.nil_append, List.length_cons, List.length_nil, szl, isa_int_non, isa_int_bl, isa_int_int, isa_int_str, isa_int_tup, isa_int_lst, isa_int_ro, isa_bool_non, isa_bool_bl, isa_bool_int, isa_bool_str, isa_bool_tup, isa_bool_lst, isa_bool_ro, isa_tuple_non, isa_tuple_bl, isa_tuple_int, isa_tuple_str, isa_tuple_tup, isa_tuple_lst, isa_tuple_ro, isa_list_non, isa_list_bl, isa_list_int, isa_list_str, isa_list_tup, isa_list_lst, isa_list_ro, isa_str_non, isa_str_bl, isa_str_int, isa_str_str, isa_str_tup, isa_str_lst, isa_str_ro, isl_non, isl_bl, isl_int, isl_str, isl_tup, isl_lst, isl_ro, Nat.zero_add, Nat.reduceAdd, Nat.reduceSub, Nat.reduceLeDiff, Nat.reduceLT, Nat.reducePow, Int.reduceNeg, decide_true, decide_false, Bool.not_true, Bool.not_false, Int.reduceToNat, Int.reducePow, Int.reduceAdd, Int.reduceSub, Int.reduceMul, nco, eq_self, Int.reduceEq, Int.reduceLT, Int.reduceLE, w_run1, w_run2, w_run3, fl_tup, fl_lst, ix_tup0, ix_tup1, Bool.false_eq_true, reduceCtorEq, ↓w_comp0, ↓w_comp1, wipe0, wipe1, fall_lst, bools0, bools1, Option.map_some, List.all_cons, List.all_nil, id, Bool.and_true, Bool.and_false, Bool.true_and, Bool.false_and, ↓t_rt, ↓t_nx, t_rt, t_nx, kz_int, kz_div, kz_isn0, kz_isn1, kz_isn2, kz_isn3, w_raise0, kz_isl1, kz_isl2, kz_isl3, kz_isb1, fr_t, fr_l, gfl_lst, ne_bl, w_iZipA, za_t])
      refine all ps h ?_
      (try simp only [↓w_ok, ↓w_exc, ↓w_bad, ↓w_bnd, ↓w_ret, ↓w_badm, ↓w_lift, ↓o_some, ↓o_none, ↓o_map, ↓o_ite, ↓c_true, ↓b_true, ↓b_false, ↓f_nx, ↓f_rt, ↓f_bk, ↓f_ct, ↓f_ex, ↓w_var, ↓w_c, ↓w_c2, ↓w_c1, ↓w_cN, ↓w_nil, ↓w_cons, ↓w_tup, ↓w_lst, ↓w_frz, ↓w_own, ↓w_call, ↓w_no, ↓w_part, ↓w_sl, ↓w_tB, ↓w_tAnd, ↓w_tOr, ↓w_tNot, ↓w_tYes, ↓w_vAnd, ↓w_vOr, ↓w_vNot, ↓w_if, ↓w_pNil, ↓w_pCons, ↓w_dict, ↓w_lc, ↓w_iSeq, ↓w_iRng, ↓w_next, ↓w_seq, ↓w_do, ↓w_sret, ↓w_sretN, ↓w_drop, ↓w_sif, ↓w_brk, ↓w_cnt, ↓w_asg, ↓w_nm, ↓w_gnil, ↓w_gcons, ↓w_gseq, ↓w_gsub, ↓w_par, ↓w_for, ↓w_dput, ↓w_app, ↓l_nx, ↓l_ct, ↓l_bk, ↓l_rt, ↓l_ex, ↓w_loop0, ↓w_run1, ↓w_run2, ↓w_run3, ↓e_rt, ↓e_nx, ↓e_ex, e_rt, e_nx, e_ex, l_nx, l_ct, l_bk, l_rt, l_ex, k_add, k_sub, k_mul, k_div, k_mod, k_pow, k_neg, k_cmp, k_eqi, k_nei, k_divmod, k_gcd, k_abs, i_tup, i_lst, i_ro, lo_lst, st_lst, st_ro, st_tup, o_some, o_none, o_map, o_ite, c_true, b_true, b_false, f_nx, f_rt, f_bk, f_ct, f_ex, boolD_bl, intD_int, two_two, w_ok, bx_turn, bx_cells, bx_put, bx_lenc, bx_ix, bx_sub, List.getElem?_cons_zero, List.getElem?_cons_succ, List.getElem?_nil, List.set_cons_zero, List.set_cons_succ, List.map_cons, List.map_nil, List.replicate_succ, List.replicate_zero, List.cons_append, List.nil_append, List.length_cons, List.length_nil, szl, isa_int_non, isa_int_bl, isa_int_int, isa_int_str, isa_int_tup, isa_int_lst, isa_int_ro, isa_bool_non, isa_bool_bl, isa_bool_int, isa_bool_str, isa_bool_tup, isa_bool_lst, isa_bool_ro, isa_tuple_non, isa_tuple_bl, isa_tuple_int, isa_tuple_str, isa_tuple_tup, isa_tuple_lst, isa_tuple_ro, isa_list_non, isa_list_bl, isa_list_int, isa_list_str, isa_list_tup, isa_list_lst, isa_list_ro, isa_str_non, isa_str_bl, isa_str_int, isa_str_str, isa_str_tup, isa_str_lst, isa_str_ro, isl_non, isl_bl, isl_int, isl_str, isl_tup, isl_lst, isl_ro, Nat.zero_add, Nat.reduceAdd, Nat.reduceSub, Nat.reduceLeDiff, Nat.reduceLT, Nat.reducePow, Int.reduceNeg, decide_true, decide_false, Bool.not_true, Bool.not_false, Int.reduceToNat, Int.reducePow, Int.reduceAdd, Int.reduceSub, Int.reduceMul, nco, eq_self, Int.reduceEq, Int.reduceLT, Int.reduceLE, w_run1, w_run2, w_run3, fl_tup, fl_lst, ix_tup0, ix_tup1, Bool.false_eq_true, reduceCtorEq, ↓w_comp0, ↓w_comp1, wipe0, wipe1, fall_lst, bools0, bools1, Option.map_some, List.all_cons, List.all_nil, id, Bool.and_true, Bool.and_false, Bool.true_and, Bool.false_and, ↓t_rt, ↓t_nx, t_rt, t_nx, kz_int, kz_div, kz_isn0, kz_isn1, kz_isn2, kz_isn3, w_raise0, kz_isl1, kz_isl2, kz_isl3, kz_isb1, fr_t, fr_l, gfl_lst, brep, arep])
      exact q
    | _ => cases h
theorem same_ {n : Nat} {x y : D} (p : PyData) (ex : x = ofP p) (ey : y = ofP p) (h : sm n p = true) (q : P (.bl true) st) : wp P E u (Gk02.m_l_same n [x, y] st) := by
  subst ex; subst ey; exact wp_same n p h q
/-! caught -/
variable {R : Fl → Sto → Prop} {v : Dep R E} {t : Ts} {j : Nat} {tst : Str → Option Bool}
def ctP (R : Fl → Sto → Prop) (j : Nat) (tst : Str → Option Bool) (f : Fl) (s : Sto) : Prop := match f with
  | .nx nv1 => nv1[j]? = some (some .non) ∧ R (.rt (.bl false)) s
  | .ex x nv1 => j < nv1.length ∧ x.fs = none ∧ ∃ b, tst x.cls = some b ∧ R (.rt (.bl b)) s
  | _ => False
theorem w_caught (h : wp (ctP R j tst) F0 () (t nv st)) : wp R E v (sCaught t j tst nv st) := by
  unfold sCaught
  cases e : t nv st with
  | bad => rw [e] at h; exact absurd h id
  | exc x s => rw [e] at h; exact absurd h id
  | ok f s =>
    rw [e] at h
    have h : ctP R j tst f s := h
    cases f with
    | nx nv1 =>
      obtain ⟨h1, h2⟩ := h
      simp only [h1]
      exact h2
    | ex x nv1 =>
      obtain ⟨h1, h2, b, h3, h4⟩ := h
      simp only [h2, h3, if_pos h1]
      exact h4
    | _ => exact absurd h id
theorem wp_ref0 {k : Bool} {a b d : Int} (ha : a.natAbs < 2 ^ 100) (hb : b.natAbs < 2 ^ 100) (hd : d.natAbs < 2 ^ 100) (q : P (.bl true) st) : wp P E u (Gk02.m_l_refused [.int 0, fr k a b, fr k 0 d] st) := by
  unfold Gk02.m_l_refused
  have go : ∀ {R : D → Sto → Prop} {F : Exn → Sto → Prop} {v : Dep R F}, F NP st → wp R F v (Gk02.m_over [fr k a b, fr k 0 d] st) := fun h => wp_over0 ha hb hd h
  cases k
  all_goals
    (try simp only [↓w_ok, ↓w_exc, ↓w_bad, ↓w_bnd, ↓w_ret, ↓w_badm, ↓w_lift, ↓o_some, ↓o_none, ↓o_map, ↓o_ite, ↓c_true, ↓b_true, ↓b_false, ↓f_nx, ↓f_rt, ↓f_bk, ↓f_ct, ↓f_ex, ↓w_var, ↓w_c, ↓w_c2, ↓w_c1, ↓w_cN, ↓w_nil, ↓w_cons, ↓w_tup, ↓w_lst, ↓w_frz, ↓w_own, ↓w_call, ↓w_no, ↓w_part, ↓w_sl, ↓w_tB, ↓w_tAnd, ↓w_tOr, ↓w_tNot, ↓w_tYes, ↓w_vAnd, ↓w_vOr, ↓w_vNot, ↓w_if, ↓w_pNil, ↓w_pCons, ↓w_dict, ↓w_lc, ↓w_iSeq, ↓w_iRng, ↓w_next, ↓w_seq, ↓w_do, ↓w_sret, ↓w_sretN, ↓w_drop, ↓w_sif, ↓w_brk, ↓w_cnt, ↓w_asg, ↓w_nm, ↓w_gnil, ↓w_gcons, ↓w_gseq, ↓w_gsub, ↓w_par, ↓w_for, ↓w_dput, ↓w_app, ↓l_nx, ↓l_ct, ↓l_bk, ↓l_rt, ↓l_ex, ↓w_loop0, ↓w_run1, ↓w_run2, ↓w_run3, ↓e_rt, ↓e_nx, ↓e_ex, e_rt, e_nx, e_ex, l_nx, l_ct, l_bk, l_rt, l_ex, k_add, k_sub, k_mul, k_div, k_mod, k_pow, k_neg, k_cmp, k_eqi, k_nei, k_divmod, k_gcd, k_abs, i_tup, i_lst, i_ro, lo_lst, st_lst, st_ro, st_tup, o_some, o_none, o_map, o_ite, c_true, b_true, b_false, f_nx, f_rt, f_bk, f_ct, f_ex, boolD_bl, intD_int, two_two, w_ok, bx_turn, bx_cells, bx_put, bx_lenc, bx_ix, bx_sub, List.getElem?_cons_zero, List.getElem?_cons_succ, List.getElem?_nil, List.set_cons_zero, List.set_cons_succ, List.map_cons, List.map_nil, List.replicate_succ, List.replicate_zero, List.cons_append, List.nil_append, List.length_cons, List.length_nil, szl, isa_int_non, isa_int_bl, isa_int_int, isa_int_str, isa_int_tup, isa_int_lst, isa_int_ro, isa_bool_non, isa_bool_bl, isa_bool_int, isa_bool_str, isa_bool_tup, isa_bool_lst, isa_bool_ro, isa_tuple_non, isa_tuple_bl, isa_tuple_int, isa_tuple_str, isa_tuple_tup, isa_tuple_lst, isa_tuple_ro, isa_list_non, isa_list_bl, isa_list_int, isa_list_str, isa_list_tup, isa_list_lst, isa_list_ro, isa_str_non, isa_str_bl, isa_str_int, isa_str_str, isa_str_tup, isa_str_lst, isa_str_ro, isl_non, isl_bl, isl_int, isl_str, isl_tup, isl_lst, isl_ro, Nat.zero_add, Nat.reduceAdd, Nat.reduceSub, Nat.reduceLeDiff, Nat.reduceLT, Nat.reducePow, Int.reduceNeg, decide_true, decide_false, Bool.not_true, Bool.not_false, Int.reduceToNat, Int.reducePow, Int.reduceAdd, Int.reduceSub, Int.reduceMul, nco, eq_self, Int.reduceEq, Int.reduceLT, Int.reduceLE, w_run1, w_run2, w_run3, fl_tup, fl_lst, ix_tup0, ix_tup1, Bool.false_eq_true, reduceCtorEq, ↓w_comp0, ↓w_comp1, wipe0, wipe1, fall_lst, bools0, bools1, Option.map_some, List.all_cons, List.all_nil, id, Bool.and_true, Bool.and_false, Bool.true_and, Bool.false_and, ↓t_rt, ↓t_nx, t_rt, t_nx, kz_int, kz_div, kz_isn0, kz_isn1, kz_isn2, kz_isn3, w_raise0, kz_isl1, kz_isl2, kz_isl3, kz_isb1, fr_t, fr_l, gfl_lst])
    refine w_caught ?_
    (try simp only [↓w_ok, ↓w_exc, ↓w_bad, ↓w_bnd, ↓w_ret, ↓w_badm, ↓w_lift, ↓o_some, ↓o_none, ↓o_map, ↓o_ite, ↓c_true, ↓b_true, ↓b_false, ↓f_nx, ↓f_rt, ↓f_bk, ↓f_ct, ↓f_ex, ↓w_var, ↓w_c, ↓w_c2, ↓w_c1, ↓w_cN, ↓w_nil, ↓w_cons, ↓w_tup, ↓w_lst, ↓w_frz, ↓w_own, ↓w_call, ↓w_no, ↓w_part, ↓w_sl, ↓w_tB, ↓w_tAnd, ↓w_tOr, ↓w_tNot, ↓w_tYes, ↓w_vAnd, ↓w_vOr, ↓w_vNot, ↓w_if, ↓w_pNil, ↓w_pCons, ↓w_dict, ↓w_lc, ↓w_iSeq, ↓w_iRng, ↓w_next, ↓w_seq, ↓w_do, ↓w_sret, ↓w_sretN, ↓w_drop, ↓w_sif, ↓w_brk, ↓w_cnt, ↓w_asg, ↓w_nm, ↓w_gnil, ↓w_gcons, ↓w_gseq, ↓w_gsub, ↓w_par, ↓w_for, ↓w_dput, ↓w_app, ↓l_nx, ↓l_ct, ↓l_bk, ↓l_rt, ↓l_ex, ↓w_loop0, ↓w_run1, ↓w_run2, ↓w_run3, ↓e_rt, ↓e_nx, ↓e_ex, e_rt, e_nx, e_ex, l_nx, l_ct, l_bk, l_rt, l_ex, k_add, k_sub, k_mul, k_div, k_mod, k_pow, k_neg, k_cmp, k_eqi, k_nei, k_divmod, k_gcd, k_abs, i_tup, i_lst, i_ro, lo_lst, st_lst, st_ro, st_tup, o_some, o_none, o_map, o_ite, c_true, b_true, b_false, f_nx, f_rt, f_bk, f_ct, f_ex, boolD_bl, intD_int, two_two, w_ok, bx_turn, bx_cells, bx_put, bx_lenc, bx_ix, bx_sub, List.getElem?_cons_zero, List.getElem?_cons_succ, List.getElem?_nil, List.set_cons_zero, List.set_cons_succ, List.map_cons, List.map_nil, List.replicate_succ, List.replicate_zero, List.cons_append, List.nil_append, List.length_cons, List.length_nil, szl, isa_int_non, isa_int_bl, isa_int_int, isa_int_str, isa_int_tup, isa_int_lst, isa_int_ro, isa_bool_non, isa_bool_bl, isa_bool_int, isa_bool_str, isa_bool_tup, isa_bool_lst, isa_bool_ro, isa_tuple_non, isa_tuple_bl, isa_tuple_int, isa_tuple_str, isa_tuple_tup, isa_tuple_lst, isa_tuple_ro, isa_list_non, isa_list_bl, isa_list_int, isa_list_str, isa_list_tup, isa_list_lst, isa_list_ro, isa_str_non, isa_str_bl, isa_str_int, isa_str_str, isa_str_tup, isa_str_lst, isa_str_ro, isl_non, isl_bl, isl_int, isl_str, isl_tup, isl_lst, isl_ro, Nat.zero_add, Nat.reduceAdd, Nat.reduceSub, Nat.reduceLeDiff, Nat.reduceLT, Nat.reducePow, Int.reduceNeg, decide_true, decide_false, Bool.not_true, Bool.not_false, Int.reduceToNat, Int.reducePow, Int.reduceAdd, Int.reduceSub, Int.reduceMul, nco, eq_self, Int.reduceEq, Int.reduceLT, Int.reduceLE, w_run1, w_run2, w_run3, fl_tup, fl_lst, ix_tup0, ix_tup1, Bool.false_eq_true, reduceCtorEq, ↓w_comp0, ↓w_comp1, wipe0, wipe1, fall_lst, bools0, bools1, Option.map_some, List.all_cons, List.all_nil, id, Bool.and_true, Bool.and_false, Bool.true_and, Bool.false_and, ↓t_rt, ↓t_nx, t_rt, t_nx, kz_int, kz_div, kz_isn0, kz_isn1, kz_isn2, kz_isn3, w_raise0, kz_isl1, kz_isl2, kz_isl3, kz_isb1, fr_t, fr_l, gfl_lst])
    refine go ?_
    refine ⟨by simp, rfl, true, by decide, ?_⟩
    (try simp only [↓w_ok, ↓w_exc, ↓w_bad, ↓w_bnd, ↓w_ret, ↓w_badm, ↓w_lift, ↓o_some, ↓o_none, ↓o_map, ↓o_ite, ↓c_true, ↓b_true, ↓b_false, ↓f_nx, ↓f_rt, ↓f_bk, ↓f_ct, ↓f_ex, ↓w_var, ↓w_c, ↓w_c2, ↓w_c1, ↓w_cN, ↓w_nil, ↓w_cons, ↓w_tup, ↓w_lst, ↓w_frz, ↓w_own, ↓w_call, ↓w_no, ↓w_part, ↓w_sl, ↓w_tB, ↓w_tAnd, ↓w_tOr, ↓w_tNot, ↓w_tYes, ↓w_vAnd, ↓w_vOr, ↓w_vNot, ↓w_if, ↓w_pNil, ↓w_pCons, ↓w_dict, ↓w_lc, ↓w_iSeq, ↓w_iRng, ↓w_next, ↓w_seq, ↓w_do, ↓w_sret, ↓w_sretN, ↓w_drop, ↓w_sif, ↓w_brk, ↓w_cnt, ↓w_asg, ↓w_nm, ↓w_gnil, ↓w_gcons, ↓w_gseq, ↓w_gsub, ↓w_par, ↓w_for, ↓w_dput, ↓w_app, ↓l_nx, ↓l_ct, ↓l_bk, ↓l_rt, ↓l_ex, ↓w_loop0, ↓w_run1, ↓w_run2, ↓w_run3, ↓e_rt, ↓e_nx, ↓e_ex, e_rt, e_nx, e_ex, l_nx, l_ct, l_bk, l_rt, l_ex, k_add, k_sub, k_mul, k_div, k_mod, k_pow, k_neg, k_cmp, k_eqi, k_nei, k_divmod, k_gcd, k_abs, i_tup, i_lst, i_ro, lo_lst, st_lst, st_ro, st_tup, o_some, o_none, o_map, o_ite, c_true, b_true, b_false, f_nx, f_rt, f_bk, f_ct, f_ex, boolD_bl, intD_int, two_two, w_ok, bx_turn, bx_cells, bx_put, bx_lenc, bx_ix, bx_sub, List.getElem?_cons_zero, List.getElem?_cons_succ, List.getElem?_nil, List.set_cons_zero, List.set_cons_succ, List.map_cons, List.map_nil, List.replicate_succ, List.replicate_zero, List.cons_append, List.nil_append, List.length_cons, List.length_nil, szl, isa_int_non, isa_int_bl, isa_int_int, isa_int_str, isa_int_tup, isa_int_lst, isa_int_ro, isa_bool_non, isa_bool_bl, isa_bool_int, isa_bool_str, isa_bool_tup, isa_bool_lst, isa_bool_ro, isa_tuple_non, isa_tuple_bl, isa_tuple_int, isa_tuple_str, isa_tuple_tup, isa_tuple_lst, isa_tuple_ro, isa_list_non, isa_list_bl, isa_list_int, isa_list_str, isa_list_tup, isa_list_lst, isa_list_ro, isa_str_non, isa_str_bl, isa_str_int, isa_str_str, isa_str_tup, isa_str_lst, isa_str_ro, isl_non, isl_bl, isl_int, isl_str, isl_tup, isl_lst, isl_ro, Nat.zero_add, Nat.reduceAdd, Nat.reduceSub, Nat.reduceLeDiff, Nat.reduceLT, Nat.reducePow, Int.reduceNeg, decide_true, decide_false, Bool.not_true, Bool.not_false, Int.reduceToNat, Int.reducePow, Int.reduceAdd, Int.reduceSub, Int.reduceMul, nco, eq_self, Int.reduceEq, Int.reduceLT, Int.reduceLE, w_run1, w_run2, w_run3, fl_tup, fl_lst, ix_tup0, ix_tup1, Bool.false_eq_true, reduceCtorEq, ↓w_comp0, ↓w_comp1, wipe0, wipe1, fall_lst, bools0, bools1, Option.map_some, List.all_cons, List.all_nil, id, Bool.and_true, Bool.and_false, Bool.true_and, Bool.false_and, ↓t_rt, ↓t_nx, t_rt, t_nx, kz_int, kz_div, kz_isn0, kz_isn1, kz_isn2, kz_isn3, w_raise0, kz_isl1, kz_isl2, kz_isl3, kz_isb1, fr_t, fr_l, gfl_lst])
    exact q
theorem wp_ref1 {a : Int} (q : P (.bl true) st) : wp P E u (Gk02.m_l_refused [.int 1, .int a, .int 0] st) := by
  unfold Gk02.m_l_refused
  (try simp only [↓w_ok, ↓w_exc, ↓w_bad, ↓w_bnd, ↓w_ret, ↓w_badm, ↓w_lift, ↓o_some, ↓o_none, ↓o_map, ↓o_ite, ↓c_true, ↓b_true, ↓b_false, ↓f_nx, ↓f_rt, ↓f_bk, ↓f_ct, ↓f_ex, ↓w_var, ↓w_c, ↓w_c2, ↓w_c1, ↓w_cN, ↓w_nil, ↓w_cons, ↓w_tup, ↓w_lst, ↓w_frz, ↓w_own, ↓w_call, ↓w_no, ↓w_part, ↓w_sl, ↓w_tB, ↓w_tAnd, ↓w_tOr, ↓w_tNot, ↓w_tYes, ↓w_vAnd, ↓w_vOr, ↓w_vNot, ↓w_if, ↓w_pNil, ↓w_pCons, ↓w_dict, ↓w_lc, ↓w_iSeq, ↓w_iRng, ↓w_next, ↓w_seq, ↓w_do, ↓w_sret, ↓w_sretN, ↓w_drop, ↓w_sif, ↓w_brk, ↓w_cnt, ↓w_asg, ↓w_nm, ↓w_gnil, ↓w_gcons, ↓w_gseq, ↓w_gsub, ↓w_par, ↓w_for, ↓w_dput, ↓w_app, ↓l_nx, ↓l_ct, ↓l_bk, ↓l_rt, ↓l_ex, ↓w_loop0, ↓w_run1, ↓w_run2, ↓w_run3, ↓e_rt, ↓e_nx, ↓e_ex, e_rt, e_nx, e_ex, l_nx, l_ct, l_bk, l_rt, l_ex, k_add, k_sub, k_mul, k_div, k_mod, k_pow, k_neg, k_cmp, k_eqi, k_nei, k_divmod, k_gcd, k_abs, i_tup, i_lst, i_ro, lo_lst, st_lst, st_ro, st_tup, o_some, o_none, o_map, o_ite, c_true, b_true, b_false, f_nx, f_rt, f_bk, f_ct, f_ex, boolD_bl, intD_int, two_two, w_ok, bx_turn, bx_cells, bx_put, bx_lenc, bx_ix, bx_sub, List.getElem?_cons_zero, List.getElem?_cons_succ, List.getElem?_nil, List.set_cons_zero, List.set_cons_succ, List.map_cons, List.map_nil, List.replicate_succ, List.replicate_zero, List.cons_append, List.nil_append, List.length_cons, List.length_nil, szl, isa_int_non, isa_int_bl, isa_int_int, isa_int_str, isa_int_tup, isa_int_lst, isa_int_ro, isa_bool_non, isa_bool_bl, isa_bool_int, isa_bool_str, isa_bool_tup, isa_bool_lst, isa_bool_ro, isa_tuple_non, isa_tuple_bl, isa_tuple_int, isa_tuple_str, isa_tuple_tup, isa_tuple_lst, isa_tuple_ro, isa_list_non, isa_list_bl, isa_list_int, isa_list_str, isa_list_tup, isa_list_lst, isa_list_ro, isa_str_non, isa_str_bl, isa_str_int, isa_str_str, isa_str_tup, isa_str_lst, isa_str_ro, isl_non, isl_bl, isl_int, isl_str, isl_tup, isl_lst, isl_ro, Nat.zero_add, Nat.reduceAdd, Nat.reduceSub, Nat.reduceLeDiff, Nat.reduceLT, Nat.reducePow, Int.reduceNeg, decide_true, decide_false, Bool.not_true, Bool.not_false, Int.reduceToNat, Int.reducePow, Int.reduceAdd, Int.reduceSub, Int.reduceMul, nco, eq_self, Int.reduceEq, Int.reduceLT, Int.reduceLE, w_run1, w_run2, w_run3, fl_tup, fl_lst, ix_tup0, ix_tup1, Bool.false_eq_true, reduceCtorEq, ↓w_comp0, ↓w_comp1, wipe0, wipe1, fall_lst, bools0, bools1, Option.map_some, List.all_cons, List.all_nil, id, Bool.and_true, Bool.and_false, Bool.true_and, Bool.false_and, ↓t_rt, ↓t_nx, t_rt, t_nx, kz_int, kz_div, kz_isn0, kz_isn1, kz_isn2, kz_isn3, w_raise0, kz_isl1, kz_isl2, kz_isl3, kz_isb1, fr_t, fr_l, gfl_lst])
  refine w_caught ?_
  (try simp only [↓w_ok, ↓w_exc, ↓w_bad, ↓w_bnd, ↓w_ret, ↓w_badm, ↓w_lift, ↓o_some, ↓o_none, ↓o_map, ↓o_ite, ↓c_true, ↓b_true, ↓b_false, ↓f_nx, ↓f_rt, ↓f_bk, ↓f_ct, ↓f_ex, ↓w_var, ↓w_c, ↓w_c2, ↓w_c1, ↓w_cN, ↓w_nil, ↓w_cons, ↓w_tup, ↓w_lst, ↓w_frz, ↓w_own, ↓w_call, ↓w_no, ↓w_part, ↓w_sl, ↓w_tB, ↓w_tAnd, ↓w_tOr, ↓w_tNot, ↓w_tYes, ↓w_vAnd, ↓w_vOr, ↓w_vNot, ↓w_if, ↓w_pNil, ↓w_pCons, ↓w_dict, ↓w_lc, ↓w_iSeq, ↓w_iRng, ↓w_next, ↓w_seq, ↓w_do, ↓w_sret, ↓w_sretN, ↓w_drop, ↓w_sif, ↓w_brk, ↓w_cnt, ↓w_asg, ↓w_nm, ↓w_gnil, ↓w_gcons, ↓w_gseq, ↓w_gsub, ↓w_par, ↓w_for, ↓w_dput, ↓w_app, ↓l_nx, ↓l_ct, ↓l_bk, ↓l_rt, ↓l_ex, ↓w_loop0, ↓w_run1, ↓w_run2, ↓w_run3, ↓e_rt, ↓e_nx, ↓e_ex, e_rt, e_nx, e_ex, l_nx, l_ct, l_bk, l_rt, l_ex, k_add, k_sub, k_mul, k_div, k_mod, k_pow, k_neg, k_cmp, k_eqi, k_nei, k_divmod, k_gcd, k_abs, i_tup, i_lst, i_ro, lo_lst, st_lst, st_ro, st_tup, o_some, o_none, o_map, o_ite, c_true, b_true, b_false, f_nx, f_rt, f_bk, f_ct, f_ex, boolD_bl, intD_int, two_two, w_ok, bx_turn, bx_cells, bx_put, bx_lenc, bx_ix, bx_sub, List.getElem?_cons_zero, List.getElem?_cons_succ, List.getElem?_nil, List.set_cons_zero, List.set_cons_succ, List.map_cons, List.map_nil, List.replicate_succ, List.replicate_zero, List.cons_append, List.nil_append, List.length_cons, List.length_nil, szl, isa_int_non, isa_int_bl, isa_int_int, isa_int_str, isa_int_tup, isa_int_lst, isa_int_ro, isa_bool_non, isa_bool_bl, isa_bool_int, isa_bool_str, isa_bool_tup, isa_bool_lst, isa_bool_ro, isa_tuple_non, isa_tuple_bl, isa_tuple_int, isa_tuple_str, isa_tuple_tup, isa_tuple_lst, isa_tuple_ro, isa_list_non, isa_list_bl, isa_list_int, isa_list_str, isa_list_tup, isa_list_lst, isa_list_ro, isa_str_non, isa_str_bl, isa_str_int, isa_str_str, isa_str_tup, isa_str_lst, isa_str_ro, isl_non, isl_bl, isl_int, isl_str, isl_tup, isl_lst, isl_ro, Nat.zero_add, Nat.reduceAdd, Nat.reduceSub, Nat.reduceLeDiff, Nat.reduceLT, Nat.reducePow, Int.reduceNeg, decide_true, decide_false, Bool.not_true, Bool.not_false, Int.reduceToNat, Int.reducePow, Int.reduceAdd, Int.reduceSub, Int.reduceMul, nco, eq_self, Int.reduceEq, Int.reduceLT, Int.reduceLE, w_run1, w_run2, w_run3, fl_tup, fl_lst, ix_tup0, ix_tup1, Bool.false_eq_true, reduceCtorEq, ↓w_comp0, ↓w_comp1, wipe0, wipe1, fall_lst, bools0, bools1, Option.map_some, List.all_cons, List.all_nil, id, Bool.and_true, Bool.and_false, Bool.true_and, Bool.false_and, ↓t_rt, ↓t_nx, t_rt, t_nx, kz_int, kz_div, kz_isn0, kz_isn1, kz_isn2, kz_isn3, w_raise0, kz_isl1, kz_isl2, kz_isl3, kz_isb1, fr_t, fr_l, gfl_lst])
  refine wp_lowest0 ?_
  refine ⟨by simp, rfl, true, by decide, ?_⟩
  (try simp only [↓w_ok, ↓w_exc, ↓w_bad, ↓w_bnd, ↓w_ret, ↓w_badm, ↓w_lift, ↓o_some, ↓o_none, ↓o_map, ↓o_ite, ↓c_true, ↓b_true, ↓b_false, ↓f_nx, ↓f_rt, ↓f_bk, ↓f_ct, ↓f_ex, ↓w_var, ↓w_c, ↓w_c2, ↓w_c1, ↓w_cN, ↓w_nil, ↓w_cons, ↓w_tup, ↓w_lst, ↓w_frz, ↓w_own, ↓w_call, ↓w_no, ↓w_part, ↓w_sl, ↓w_tB, ↓w_tAnd, ↓w_tOr, ↓w_tNot, ↓w_tYes, ↓w_vAnd, ↓w_vOr, ↓w_vNot, ↓w_if, ↓w_pNil, ↓w_pCons, ↓w_dict, ↓w_lc, ↓w_iSeq, ↓w_iRng, ↓w_next, ↓w_seq, ↓w_do, ↓w_sret, ↓w_sretN, ↓w_drop, ↓w_sif, ↓w_brk, ↓w_cnt, ↓w_asg, ↓w_nm, ↓w_gnil, ↓w_gcons, ↓w_gseq, ↓w_gsub, ↓w_par, ↓w_for, ↓w_dput, ↓w_app, ↓l_nx, ↓l_ct, ↓l_bk, ↓l_rt, ↓l_ex, ↓w_loop0, ↓w_run1, ↓w_run2, ↓w_run3, ↓e_rt, ↓e_nx, ↓e_ex, e_rt, e_nx, e_ex, l_nx, l_ct, l_bk, l_rt, l_ex, k_add, k_sub, k_mul, k_div, k_mod, k_pow, k_neg, k_cmp, k_eqi, k_nei, k_divmod, k_gcd, k_abs, i_tup, i_lst, i_ro, lo_lst, st_lst, st_ro, st_tup, o_some, o_none, o_map, o_ite, c_true, b_true, b_false, f_nx, f_rt, f_bk, f_ct, f_ex, boolD_bl, intD_int, two_two, w_ok, bx_turn, bx_cells, bx_put, bx_lenc, bx_ix, bx_sub, List.getElem?_cons_zero, List.getElem?_cons_succ, List.getElem?_nil, List.set_cons_zero, List.set_cons_succ, List.map_cons, List.map_nil, List.replicate_succ, List.replicate_zero, List.cons_append, List.nil_append, List.length_cons, List.length_nil, szl, isa_int_non, isa_int_bl, isa_int_int, isa_int_str, isa_int_tup, isa_int_lst, isa_int_ro, isa_bool_non, isa_bool_bl, isa_bool_int, isa_bool_str, isa_bool_tup, isa_bool_lst, isa_bool_ro, isa_tuple_non, isa_tuple_bl, isa_tuple_int, isa_tuple_str, isa_tuple_tup, isa_tuple_lst, isa_tuple_ro, isa_list_non, isa_list_bl, isa_list_int, isa_list_str, isa_list_tup, isa_list_lst, isa_list_ro, isa_str_non, isa_str_bl, isa_str_int, isa_str_str, isa_str_tup, isa_str_lst, isa_str_ro, isl_non, isl_bl, isl_int, isl_str, isl_tup, isl_lst, isl_ro, Nat.zero_add, Nat.reduceAdd, Nat.reduceSub, Nat.reduceLeDiff, Nat.reduceLT, Nat.reducePow, Int.reduceNeg, decide_true, decide_false, Bool.not_true, Bool.not_false, Int.reduceToNat, Int.reducePow, Int.reduceAdd, Int.reduceSub, Int.reduceMul, nco, eq_self, Int.reduceEq, Int.reduceLT, Int.reduceLE, w_run1, w_run2, w_run3, fl_tup, fl_lst, ix_tup0, ix_tup1, Bool.false_eq_true, reduceCtorEq, ↓w_comp0, ↓w_comp1, wipe0, wipe1, fall_lst, bools0, bools1, Option.map_some, List.all_cons, List.all_nil, id, Bool.and_true, Bool.and_false, Bool.true_and, Bool.false_and, ↓t_rt, ↓t_nx, t_rt, t_nx, kz_int, kz_div, kz_isn0, kz_isn1, kz_isn2, kz_isn3, w_raise0, kz_isl1, kz_isl2, kz_isl3, kz_isb1, fr_t, fr_l, gfl_lst])
  exact q
/-! made and lengthened -/
def fzP (R : Fl → Sto → Prop) (st : Sto) (j : Nat) (f : Fl) (s : Sto) : Prop := match f with
  | .nx nv1 => ((OldOk st s ∧ st.length ≤ s.length) ∧ othersLow j st.length 0 nv1 = true) ∧ ∃ x y, nv1[j]? = some (some x) ∧ thaw s st.length 40 x = some y ∧ R (.nx (nv1.set j (some y))) (s.take st.length)
  | _ => False
theorem w_fz (h : wp (fzP R st j) F0 () (t nv st)) : wp R E v (sFz t j nv st) := by
  unfold sFz
  cases e : t nv st with
  | bad => rw [e] at h; exact absurd h id
  | exc x s => rw [e] at h; exact absurd h id
  | ok f s =>
    rw [e] at h
    have h : fzP R st j f s := h
    cases f with
    | nx nv1 =>
      obtain ⟨h1, x, y, h2, h3, h4⟩ := h
      simp only [if_pos h1, h2, h3]
      exact h4
    | _ => exact absurd h id
theorem old_app {l : Sto} : OldOk st (st ++ l) := fun i o hi ho => .inl (by rw [List.getElem?_append_left hi] at ho; exact ho)
theorem thaw_own {ps : List PyData} (hd : PyData.depthAll ps ≤ 39) (hg : gds ps = true) : thaw (st ++ [.lst (ofPs ps)]) st.length 40 (.ref st.length) = some (.lst (ofPs ps)) := by
  have h := thaws_of ps 39 (st ++ [.lst (ofPs ps)]) st.length hg hd
  have e : (st ++ [SO.lst (ofPs ps)])[st.length]? = some (.lst (ofPs ps)) := by simp
  simp only [thaw, Nat.lt_irrefl, if_false, e, h, Option.map]
end
end PV
end

section
namespace PV
open PySem L2
section
variable {P : D → Sto → Prop} {E : Exn → Sto → Prop} {u : Dep P E} {st : Sto} {a b c d : Int}
theorem lowD_t : ∃ x y : Int, lowD a b = .tup [.int x, .int y] := ⟨_, _, rfl⟩
theorem ixl0 {x : D} {xs : List D} : dIx st (.lst (x :: xs)) (.int 0) = some x := by simp [dIx, items, atI, ixN]
theorem ixl1 {x y : D} {xs : List D} : dIx st (.lst (x :: y :: xs)) (.int 1) = some y := by
  simp only [dIx, items, atI]
  rw [ix_mod (by decide) (by simp only [List.length_cons]; omega)]
  rfl
theorem ixl2 {x y z : D} {xs : List D} : dIx st (.lst (x :: y :: z :: xs)) (.int 2) = some z := by
  simp only [dIx, items, atI]
  rw [ix_mod (by decide) (by simp only [List.length_cons]; omega)]
  rfl
theorem wt_int {i : Int} (h : i.natAbs < 2 ^ 100) : (PyData.int i).weight ≤ 200 := by
  simp only [PyData.weight]
  split
  · omega
  · by_cases h0 : i.natAbs = 0
    · rw [h0]; decide
    · have := (Nat.log2_lt h0).mpr h; omega
theorem o_refD {xs : List D} : refD (st ++ [.lst xs]) (.ref st.length) = some st.length := by
  have e : (st ++ [SO.lst xs])[st.length]? = some (.lst xs) := by simp
  simp only [refD, e]
theorem o_app {xs : List D} {x : D} (h : xs.length < 1000) : appD (st ++ [.lst xs]) st.length x = some (st ++ [.lst (xs ++ [x])]) := by
  have e : (st ++ [SO.lst xs])[st.length]? = some (.lst xs) := by simp
  simp only [appD, e]
  exact (if_pos (show xs.length < PySem.sizeLine by rw [szl]; omega)).trans (by simp)
theorem sg_int : ((if decide (0 < a) = true then (1 : Int) else 0) - (if decide (a < 0) = true then 1 else 0)) = sgn a := by
  unfold sgn
  simp only [decide_eq_true_eq]
  split <;> split <;> split <;> omega
theorem kadd5 {x1 x2 x3 x4 x5 : D} : dAdd st (.lst [x1, x2, x3]) (.lst [x4, x5]) = some (.lst [x1, x2, x3, x4, x5]) := by
  show Option.map D.lst (if [x1, x2, x3].length + [x4, x5].length ≤ PySem.sizeLine then some ([x1, x2, x3] ++ [x4, x5]) else none) = _
  exact congrArg _ (if_pos (by simp [szl]))
theorem rep2 {x : D} : dMul st (.lst [x]) (.int 2) = some (.lst [x, x]) := rfl
theorem wp_pair (ha : a.natAbs < 2 ^ 100) (hb : b.natAbs < 2 ^ 100) (hc : c.natAbs < 2 ^ 100) (hd : d.natAbs < 2 ^ 100) (hb0 : b ≠ 0) (hd0 : d ≠ 0) (q : P (.bl true) st) :
    wp P E u (Gk02.m_l_pair_right [.tup [.int a, .int b], .tup [.int c, .int d]] st) := by
  unfold Gk02.m_l_pair_right
  obtain ⟨xs, ys, eS⟩ := lowD_t (a := a * d + c * b) (b := b * d)
  obtain ⟨xg, yg, eG⟩ := lowD_t (a := a * d - c * b) (b := b * d)
  obtain ⟨xm, ym, eM⟩ := lowD_t (a := a * c) (b := b * d)
  obtain ⟨xq, yq, eQ⟩ := lowD_t (a := a * d) (b := b * c)
  have eG2 : lowD (a * d + (0 - c) * b) (b * d) = .tup [.int xg, .int yg] := by
    rw [← eG, Int.sub_mul, Int.zero_mul, Int.zero_sub, Int.sub_eq_add_neg]
  have eS2 : lowD (c * b + a * d) (d * b) = .tup [.int xs, .int ys] := by
    rw [← eS, Int.add_comm, Int.mul_comm d b]
  have eM2 : lowD (c * a) (d * b) = .tup [.int xm, .int ym] := by
    rw [← eM, Int.mul_comm c a, Int.mul_comm d b]
  have gp : gd (.list [.tuple [.int a, .int b], .tuple [.int c, .int d]]) = true := by
    simp only [gd, gds, Bool.and_eq_true, decide_eq_true_eq]
    exact ⟨⟨nat_lt a ha, nat_lt b hb, trivial⟩, ⟨nat_lt c hc, nat_lt d hd, trivial⟩, trivial⟩
  have hr : ∀ s, fRepr s [.lst [.tup [.int a, .int b], .tup [.int c, .int d]]] = some (.str (PyData.shown (.list [.tuple [.int a, .int b], .tuple [.int c, .int d]]))) := fun s => by
    have := repr_of (st := s) gp (by simp [PyData.depth, PyData.depthAll]) (by
      have := wt_int ha
      have := wt_int hb
      have := wt_int hc
      have := wt_int hd
      simp only [PyData.weight, PyData.weightAll] at *
      omega)
    simpa only [ofP, ofPs] using this
  generalize hw : PyData.shown (.list [.tuple [.int a, .int b], .tuple [.int c, .int d]]) = w at hr
  have gw : gd (.str w) = true := hw ▸ gd_shown gp
  have hn : (0 - c).natAbs < 2 ^ 100 := by omega
  (try simp only [↓w_ok, ↓w_exc, ↓w_bad, ↓w_bnd, ↓w_ret, ↓w_badm, ↓w_lift, ↓o_some, ↓o_none, ↓o_map, ↓o_ite, ↓c_true, ↓b_true, ↓b_false, ↓f_nx, ↓f_rt, ↓f_bk, ↓f_ct, ↓f_ex, ↓w_var, ↓w_c, ↓w_c2, ↓w_c1, ↓w_cN, ↓w_nil, ↓w_cons, ↓w_tup, ↓w_lst, ↓w_frz, ↓w_own, ↓w_call, ↓w_no, ↓w_part, ↓w_sl, ↓w_tB, ↓w_tAnd, ↓w_tOr, ↓w_tNot, ↓w_tYes, ↓w_vAnd, ↓w_vOr, ↓w_vNot, ↓w_if, ↓w_pNil, ↓w_pCons, ↓w_dict, ↓w_lc, ↓w_iSeq, ↓w_iRng, ↓w_next, ↓w_seq, ↓w_do, ↓w_sret, ↓w_sretN, ↓w_drop, ↓w_sif, ↓w_brk, ↓w_cnt, ↓w_asg, ↓w_nm, ↓w_gnil, ↓w_gcons, ↓w_gseq, ↓w_gsub, ↓w_par, ↓w_for, ↓w_dput, ↓w_app, ↓l_nx, ↓l_ct, ↓l_bk, ↓l_rt, ↓l_ex, ↓w_loop0, ↓w_run1, ↓w_run2, ↓w_run3, ↓e_rt, ↓e_nx, ↓e_ex, e_rt, e_nx, e_ex, l_nx, l_ct, l_bk, l_rt, l_ex, k_add, k_sub, k_mul, k_div, k_mod, k_pow, k_neg, k_cmp, k_eqi, k_nei, k_divmod, k_gcd, k_abs, i_tup, i_lst, i_ro, lo_lst, st_lst, st_ro, st_tup, o_some, o_none, o_map, o_ite, c_true, b_true, b_false, f_nx, f_rt, f_bk, f_ct, f_ex, boolD_bl, intD_int, two_two, w_ok, bx_turn, bx_cells, bx_put, bx_lenc, bx_ix, bx_sub, List.getElem?_cons_zero, List.getElem?_cons_succ, List.getElem?_nil, List.set_cons_zero, List.set_cons_succ, List.map_cons, List.map_nil, List.replicate_succ, List.replicate_zero, List.cons_append, List.nil_append, List.length_cons, List.length_nil, szl, isa_int_non, isa_int_bl, isa_int_int, isa_int_str, isa_int_tup, isa_int_lst, isa_int_ro, isa_bool_non, isa_bool_bl, isa_bool_int, isa_bool_str, isa_bool_tup, isa_bool_lst, isa_bool_ro, isa_tuple_non, isa_tuple_bl, isa_tuple_int, isa_tuple_str, isa_tuple_tup, isa_tuple_lst, isa_tuple_ro, isa_list_non, isa_list_bl, isa_list_int, isa_list_str, isa_list_tup, isa_list_lst, isa_list_ro, isa_str_non, isa_str_bl, isa_str_int, isa_str_str, isa_str_tup, isa_str_lst, isa_str_ro, isl_non, isl_bl, isl_int, isl_str, isl_tup, isl_lst, isl_ro, Nat.zero_add, Nat.reduceAdd, Nat.reduceSub, Nat.reduceLeDiff, Nat.reduceLT, Nat.reducePow, Int.reduceNeg, decide_true, decide_false, Bool.not_true, Bool.not_false, Int.reduceToNat, Int.reducePow, Int.reduceAdd, Int.reduceSub, Int.reduceMul, nco, eq_self, Int.reduceEq, Int.reduceLT, Int.reduceLE, w_run1, w_run2, w_run3, fl_tup, fl_lst, ix_tup0, ix_tup1, Bool.false_eq_true, reduceCtorEq, ↓w_comp0, ↓w_comp1, wipe0, wipe1, fall_lst, bools0, bools1, Option.map_some, List.all_cons, List.all_nil, id, Bool.and_true, Bool.and_false, Bool.true_and, Bool.false_and, ↓t_rt, ↓t_nx, t_rt, t_nx, kz_int, kz_div, kz_isn0, kz_isn1, kz_isn2, kz_isn3, w_raise0, kz_isl1, kz_isl2, kz_isl3, kz_isb1, fr_t, fr_l, gfl_lst, hr])
  refine wp_lneg ?_
  (try simp only [↓w_ok, ↓w_exc, ↓w_bad, ↓w_bnd, ↓w_ret, ↓w_badm, ↓w_lift, ↓o_some, ↓o_none, ↓o_map, ↓o_ite, ↓c_true, ↓b_true, ↓b_false, ↓f_nx, ↓f_rt, ↓f_bk, ↓f_ct, ↓f_ex, ↓w_var, ↓w_c, ↓w_c2, ↓w_c1, ↓w_cN, ↓w_nil, ↓w_cons, ↓w_tup, ↓w_lst, ↓w_frz, ↓w_own, ↓w_call, ↓w_no, ↓w_part, ↓w_sl, ↓w_tB, ↓w_tAnd, ↓w_tOr, ↓w_tNot, ↓w_tYes, ↓w_vAnd, ↓w_vOr, ↓w_vNot, ↓w_if, ↓w_pNil, ↓w_pCons, ↓w_dict, ↓w_lc, ↓w_iSeq, ↓w_iRng, ↓w_next, ↓w_seq, ↓w_do, ↓w_sret, ↓w_sretN, ↓w_drop, ↓w_sif, ↓w_brk, ↓w_cnt, ↓w_asg, ↓w_nm, ↓w_gnil, ↓w_gcons, ↓w_gseq, ↓w_gsub, ↓w_par, ↓w_for, ↓w_dput, ↓w_app, ↓l_nx, ↓l_ct, ↓l_bk, ↓l_rt, ↓l_ex, ↓w_loop0, ↓w_run1, ↓w_run2, ↓w_run3, ↓e_rt, ↓e_nx, ↓e_ex, e_rt, e_nx, e_ex, l_nx, l_ct, l_bk, l_rt, l_ex, k_add, k_sub, k_mul, k_div, k_mod, k_pow, k_neg, k_cmp, k_eqi, k_nei, k_divmod, k_gcd, k_abs, i_tup, i_lst, i_ro, lo_lst, st_lst, st_ro, st_tup, o_some, o_none, o_map, o_ite, c_true, b_true, b_false, f_nx, f_rt, f_bk, f_ct, f_ex, boolD_bl, intD_int, two_two, w_ok, bx_turn, bx_cells, bx_put, bx_lenc, bx_ix, bx_sub, List.getElem?_cons_zero, List.getElem?_cons_succ, List.getElem?_nil, List.set_cons_zero, List.set_cons_succ, List.map_cons, List.map_nil, List.replicate_succ, List.replicate_zero, List.cons_append, List.nil_append, List.length_cons, List.length_nil, szl, isa_int_non, isa_int_bl, isa_int_int, isa_int_str, isa_int_tup, isa_int_lst, isa_int_ro, isa_bool_non, isa_bool_bl, isa_bool_int, isa_bool_str, isa_bool_tup, isa_bool_lst, isa_bool_ro, isa_tuple_non, isa_tuple_bl, isa_tuple_int, isa_tuple_str, isa_tuple_tup, isa_tuple_lst, isa_tuple_ro, isa_list_non, isa_list_bl, isa_list_int, isa_list_str, isa_list_tup, isa_list_lst, isa_list_ro, isa_str_non, isa_str_bl, isa_str_int, isa_str_str, isa_str_tup, isa_str_lst, isa_str_ro, isl_non, isl_bl, isl_int, isl_str, isl_tup, isl_lst, isl_ro, Nat.zero_add, Nat.reduceAdd, Nat.reduceSub, Nat.reduceLeDiff, Nat.reduceLT, Nat.reducePow, Int.reduceNeg, decide_true, decide_false, Bool.not_true, Bool.not_false, Int.reduceToNat, Int.reducePow, Int.reduceAdd, Int.reduceSub, Int.reduceMul, nco, eq_self, Int.reduceEq, Int.reduceLT, Int.reduceLE, w_run1, w_run2, w_run3, fl_tup, fl_lst, ix_tup0, ix_tup1, Bool.false_eq_true, reduceCtorEq, ↓w_comp0, ↓w_comp1, wipe0, wipe1, fall_lst, bools0, bools1, Option.map_some, List.all_cons, List.all_nil, id, Bool.and_true, Bool.and_false, Bool.true_and, Bool.false_and, ↓t_rt, ↓t_nx, t_rt, t_nx, kz_int, kz_div, kz_isn0, kz_isn1, kz_isn2, kz_isn3, w_raise0, kz_isl1, kz_isl2, kz_isl3, kz_isb1, fr_t, fr_l, gfl_lst])
  refine wp_ladd ha hb hn hd hb0 hd0 ?_
  rw [eG2]
  (try simp only [↓w_ok, ↓w_exc, ↓w_bad, ↓w_bnd, ↓w_ret, ↓w_badm, ↓w_lift, ↓o_some, ↓o_none, ↓o_map, ↓o_ite, ↓c_true, ↓b_true, ↓b_false, ↓f_nx, ↓f_rt, ↓f_bk, ↓f_ct, ↓f_ex, ↓w_var, ↓w_c, ↓w_c2, ↓w_c1, ↓w_cN, ↓w_nil, ↓w_cons, ↓w_tup, ↓w_lst, ↓w_frz, ↓w_own, ↓w_call, ↓w_no, ↓w_part, ↓w_sl, ↓w_tB, ↓w_tAnd, ↓w_tOr, ↓w_tNot, ↓w_tYes, ↓w_vAnd, ↓w_vOr, ↓w_vNot, ↓w_if, ↓w_pNil, ↓w_pCons, ↓w_dict, ↓w_lc, ↓w_iSeq, ↓w_iRng, ↓w_next, ↓w_seq, ↓w_do, ↓w_sret, ↓w_sretN, ↓w_drop, ↓w_sif, ↓w_brk, ↓w_cnt, ↓w_asg, ↓w_nm, ↓w_gnil, ↓w_gcons, ↓w_gseq, ↓w_gsub, ↓w_par, ↓w_for, ↓w_dput, ↓w_app, ↓l_nx, ↓l_ct, ↓l_bk, ↓l_rt, ↓l_ex, ↓w_loop0, ↓w_run1, ↓w_run2, ↓w_run3, ↓e_rt, ↓e_nx, ↓e_ex, e_rt, e_nx, e_ex, l_nx, l_ct, l_bk, l_rt, l_ex, k_add, k_sub, k_mul, k_div, k_mod, k_pow, k_neg, k_cmp, k_eqi, k_nei, k_divmod, k_gcd, k_abs, i_tup, i_lst, i_ro, lo_lst, st_lst, st_ro, st_tup, o_some, o_none, o_map, o_ite, c_true, b_true, b_false, f_nx, f_rt, f_bk, f_ct, f_ex, boolD_bl, intD_int, two_two, w_ok, bx_turn, bx_cells, bx_put, bx_lenc, bx_ix, bx_sub, List.getElem?_cons_zero, List.getElem?_cons_succ, List.getElem?_nil, List.set_cons_zero, List.set_cons_succ, List.map_cons, List.map_nil, List.replicate_succ, List.replicate_zero, List.cons_append, List.nil_append, List.length_cons, List.length_nil, szl, isa_int_non, isa_int_bl, isa_int_int, isa_int_str, isa_int_tup, isa_int_lst, isa_int_ro, isa_bool_non, isa_bool_bl, isa_bool_int, isa_bool_str, isa_bool_tup, isa_bool_lst, isa_bool_ro, isa_tuple_non, isa_tuple_bl, isa_tuple_int, isa_tuple_str, isa_tuple_tup, isa_tuple_lst, isa_tuple_ro, isa_list_non, isa_list_bl, isa_list_int, isa_list_str, isa_list_tup, isa_list_lst, isa_list_ro, isa_str_non, isa_str_bl, isa_str_int, isa_str_str, isa_str_tup, isa_str_lst, isa_str_ro, isl_non, isl_bl, isl_int, isl_str, isl_tup, isl_lst, isl_ro, Nat.zero_add, Nat.reduceAdd, Nat.reduceSub, Nat.reduceLeDiff, Nat.reduceLT, Nat.reducePow, Int.reduceNeg, decide_true, decide_false, Bool.not_true, Bool.not_false, Int.reduceToNat, Int.reducePow, Int.reduceAdd, Int.reduceSub, Int.reduceMul, nco, eq_self, Int.reduceEq, Int.reduceLT, Int.reduceLE, w_run1, w_run2, w_run3, fl_tup, fl_lst, ix_tup0, ix_tup1, Bool.false_eq_true, reduceCtorEq, ↓w_comp0, ↓w_comp1, wipe0, wipe1, fall_lst, bools0, bools1, Option.map_some, List.all_cons, List.all_nil, id, Bool.and_true, Bool.and_false, Bool.true_and, Bool.false_and, ↓t_rt, ↓t_nx, t_rt, t_nx, kz_int, kz_div, kz_isn0, kz_isn1, kz_isn2, kz_isn3, w_raise0, kz_isl1, kz_isl2, kz_isl3, kz_isb1, fr_t, fr_l, gfl_lst])
  refine w_fz ?_
  (try simp only [↓w_ok, ↓w_exc, ↓w_bad, ↓w_bnd, ↓w_ret, ↓w_badm, ↓w_lift, ↓o_some, ↓o_none, ↓o_map, ↓o_ite, ↓c_true, ↓b_true, ↓b_false, ↓f_nx, ↓f_rt, ↓f_bk, ↓f_ct, ↓f_ex, ↓w_var, ↓w_c, ↓w_c2, ↓w_c1, ↓w_cN, ↓w_nil, ↓w_cons, ↓w_tup, ↓w_lst, ↓w_frz, ↓w_own, ↓w_call, ↓w_no, ↓w_part, ↓w_sl, ↓w_tB, ↓w_tAnd, ↓w_tOr, ↓w_tNot, ↓w_tYes, ↓w_vAnd, ↓w_vOr, ↓w_vNot, ↓w_if, ↓w_pNil, ↓w_pCons, ↓w_dict, ↓w_lc, ↓w_iSeq, ↓w_iRng, ↓w_next, ↓w_seq, ↓w_do, ↓w_sret, ↓w_sretN, ↓w_drop, ↓w_sif, ↓w_brk, ↓w_cnt, ↓w_asg, ↓w_nm, ↓w_gnil, ↓w_gcons, ↓w_gseq, ↓w_gsub, ↓w_par, ↓w_for, ↓w_dput, ↓w_app, ↓l_nx, ↓l_ct, ↓l_bk, ↓l_rt, ↓l_ex, ↓w_loop0, ↓w_run1, ↓w_run2, ↓w_run3, ↓e_rt, ↓e_nx, ↓e_ex, e_rt, e_nx, e_ex, l_nx, l_ct, l_bk, l_rt, l_ex, k_add, k_sub, k_mul, k_div, k_mod, k_pow, k_neg, k_cmp, k_eqi, k_nei, k_divmod, k_gcd, k_abs, i_tup, i_lst, i_ro, lo_lst, st_lst, st_ro, st_tup, o_some, o_none, o_map, o_ite, c_true, b_true, b_false, f_nx, f_rt, f_bk, f_ct, f_ex, boolD_bl, intD_int, two_two, w_ok, bx_turn, bx_cells, bx_put, bx_lenc, bx_ix, bx_sub, List.getElem?_cons_zero, List.getElem?_cons_succ, List.getElem?_nil, List.set_cons_zero, List.set_cons_succ, List.map_cons, List.map_nil, List.replicate_succ, List.replicate_zero, List.cons_append, List.nil_append, List.length_cons, List.length_nil, szl, isa_int_non, isa_int_bl, isa_int_int, isa_int_str, isa_int_tup, isa_int_lst, isa_int_ro, isa_bool_non, isa_bool_bl, isa_bool_int, isa_bool_str, isa_bool_tup, isa_bool_lst, isa_bool_ro, isa_tuple_non, isa_tuple_bl, isa_tuple_int, isa_tuple_str, isa_tuple_tup, isa_tuple_lst, isa_tuple_ro, isa_list_non, isa_list_bl, isa_list_int, isa_list_str, isa_list_tup, isa_list_lst, isa_list_ro, isa_str_non, isa_str_bl, isa_str_int, isa_str_str, isa_str_tup, isa_str_lst, isa_str_ro, isl_non, isl_bl, isl_int, isl_str, isl_tup, isl_lst, isl_ro, Nat.zero_add, Nat.reduceAdd, Nat.reduceSub, Nat.reduceLeDiff, Nat.reduceLT, Nat.reducePow, Int.reduceNeg, decide_true, decide_false, Bool.not_true, Bool.not_false, Int.reduceToNat, Int.reducePow, Int.reduceAdd, Int.reduceSub, Int.reduceMul, nco, eq_self, Int.reduceEq, Int.reduceLT, Int.reduceLE, w_run1, w_run2, w_run3, fl_tup, fl_lst, ix_tup0, ix_tup1, Bool.false_eq_true, reduceCtorEq, ↓w_comp0, ↓w_comp1, wipe0, wipe1, fall_lst, bools0, bools1, Option.map_some, List.all_cons, List.all_nil, id, Bool.and_true, Bool.and_false, Bool.true_and, Bool.false_and, ↓t_rt, ↓t_nx, t_rt, t_nx, kz_int, kz_div, kz_isn0, kz_isn1, kz_isn2, kz_isn3, w_raise0, kz_isl1, kz_isl2, kz_isl3, kz_isb1, fr_t, fr_l, gfl_lst])
  refine wp_ladd ha hb hc hd hb0 hd0 ?_
  rw [eS]
  (try simp only [↓w_ok, ↓w_exc, ↓w_bad, ↓w_bnd, ↓w_ret, ↓w_badm, ↓w_lift, ↓o_some, ↓o_none, ↓o_map, ↓o_ite, ↓c_true, ↓b_true, ↓b_false, ↓f_nx, ↓f_rt, ↓f_bk, ↓f_ct, ↓f_ex, ↓w_var, ↓w_c, ↓w_c2, ↓w_c1, ↓w_cN, ↓w_nil, ↓w_cons, ↓w_tup, ↓w_lst, ↓w_frz, ↓w_own, ↓w_call, ↓w_no, ↓w_part, ↓w_sl, ↓w_tB, ↓w_tAnd, ↓w_tOr, ↓w_tNot, ↓w_tYes, ↓w_vAnd, ↓w_vOr, ↓w_vNot, ↓w_if, ↓w_pNil, ↓w_pCons, ↓w_dict, ↓w_lc, ↓w_iSeq, ↓w_iRng, ↓w_next, ↓w_seq, ↓w_do, ↓w_sret, ↓w_sretN, ↓w_drop, ↓w_sif, ↓w_brk, ↓w_cnt, ↓w_asg, ↓w_nm, ↓w_gnil, ↓w_gcons, ↓w_gseq, ↓w_gsub, ↓w_par, ↓w_for, ↓w_dput, ↓w_app, ↓l_nx, ↓l_ct, ↓l_bk, ↓l_rt, ↓l_ex, ↓w_loop0, ↓w_run1, ↓w_run2, ↓w_run3, ↓e_rt, ↓e_nx, ↓e_ex, e_rt, e_nx, e_ex, l_nx, l_ct, l_bk, l_rt, l_ex, k_add, k_sub, k_mul, k_div, k_mod, k_pow, k_neg, k_cmp, k_eqi, k_nei, k_divmod, k_gcd, k_abs, i_tup, i_lst, i_ro, lo_lst, st_lst, st_ro, st_tup, o_some, o_none, o_map, o_ite, c_true, b_true, b_false, f_nx, f_rt, f_bk, f_ct, f_ex, boolD_bl, intD_int, two_two, w_ok, bx_turn, bx_cells, bx_put, bx_lenc, bx_ix, bx_sub, List.getElem?_cons_zero, List.getElem?_cons_succ, List.getElem?_nil, List.set_cons_zero, List.set_cons_succ, List.map_cons, List.map_nil, List.replicate_succ, List.replicate_zero, List.cons_append, List.nil_append, List.length_cons, List.length_nil, szl, isa_int_non, isa_int_bl, isa_int_int, isa_int_str, isa_int_tup, isa_int_lst, isa_int_ro, isa_bool_non, isa_bool_bl, isa_bool_int, isa_bool_str, isa_bool_tup, isa_bool_lst, isa_bool_ro, isa_tuple_non, isa_tuple_bl, isa_tuple_int, isa_tuple_str, isa_tuple_tup, isa_tuple_lst, isa_tuple_ro, isa_list_non, isa_list_bl, isa_list_int, isa_list_str, isa_list_tup, isa_list_lst, isa_list_ro, isa_str_non, isa_str_bl, isa_str_int, isa_str_str, isa_str_tup, isa_str_lst, isa_str_ro, isl_non, isl_bl, isl_int, isl_str, isl_tup, isl_lst, isl_ro, Nat.zero_add, Nat.reduceAdd, Nat.reduceSub, Nat.reduceLeDiff, Nat.reduceLT, Nat.reducePow, Int.reduceNeg, decide_true, decide_false, Bool.not_true, Bool.not_false, Int.reduceToNat, Int.reducePow, Int.reduceAdd, Int.reduceSub, Int.reduceMul, nco, eq_self, Int.reduceEq, Int.reduceLT, Int.reduceLE, w_run1, w_run2, w_run3, fl_tup, fl_lst, ix_tup0, ix_tup1, Bool.false_eq_true, reduceCtorEq, ↓w_comp0, ↓w_comp1, wipe0, wipe1, fall_lst, bools0, bools1, Option.map_some, List.all_cons, List.all_nil, id, Bool.and_true, Bool.and_false, Bool.true_and, Bool.false_and, ↓t_rt, ↓t_nx, t_rt, t_nx, kz_int, kz_div, kz_isn0, kz_isn1, kz_isn2, kz_isn3, w_raise0, kz_isl1, kz_isl2, kz_isl3, kz_isb1, fr_t, fr_l, gfl_lst])
  refine wp_lmul ha hb hc hd hb0 hd0 ?_
  rw [eM]
  (try simp only [↓w_ok, ↓w_exc, ↓w_bad, ↓w_bnd, ↓w_ret, ↓w_badm, ↓w_lift, ↓o_some, ↓o_none, ↓o_map, ↓o_ite, ↓c_true, ↓b_true, ↓b_false, ↓f_nx, ↓f_rt, ↓f_bk, ↓f_ct, ↓f_ex, ↓w_var, ↓w_c, ↓w_c2, ↓w_c1, ↓w_cN, ↓w_nil, ↓w_cons, ↓w_tup, ↓w_lst, ↓w_frz, ↓w_own, ↓w_call, ↓w_no, ↓w_part, ↓w_sl, ↓w_tB, ↓w_tAnd, ↓w_tOr, ↓w_tNot, ↓w_tYes, ↓w_vAnd, ↓w_vOr, ↓w_vNot, ↓w_if, ↓w_pNil, ↓w_pCons, ↓w_dict, ↓w_lc, ↓w_iSeq, ↓w_iRng, ↓w_next, ↓w_seq, ↓w_do, ↓w_sret, ↓w_sretN, ↓w_drop, ↓w_sif, ↓w_brk, ↓w_cnt, ↓w_asg, ↓w_nm, ↓w_gnil, ↓w_gcons, ↓w_gseq, ↓w_gsub, ↓w_par, ↓w_for, ↓w_dput, ↓w_app, ↓l_nx, ↓l_ct, ↓l_bk, ↓l_rt, ↓l_ex, ↓w_loop0, ↓w_run1, ↓w_run2, ↓w_run3, ↓e_rt, ↓e_nx, ↓e_ex, e_rt, e_nx, e_ex, l_nx, l_ct, l_bk, l_rt, l_ex, k_add, k_sub, k_mul, k_div, k_mod, k_pow, k_neg, k_cmp, k_eqi, k_nei, k_divmod, k_gcd, k_abs, i_tup, i_lst, i_ro, lo_lst, st_lst, st_ro, st_tup, o_some, o_none, o_map, o_ite, c_true, b_true, b_false, f_nx, f_rt, f_bk, f_ct, f_ex, boolD_bl, intD_int, two_two, w_ok, bx_turn, bx_cells, bx_put, bx_lenc, bx_ix, bx_sub, List.getElem?_cons_zero, List.getElem?_cons_succ, List.getElem?_nil, List.set_cons_zero, List.set_cons_succ, List.map_cons, List.map_nil, List.replicate_succ, List.replicate_zero, List.cons_append, List.nil_append, List.length_cons, List.length_nil, szl, isa_int_non, isa_int_bl, isa_int_int, isa_int_str, isa_int_tup, isa_int_lst, isa_int_ro, isa_bool_non, isa_bool_bl, isa_bool_int, isa_bool_str, isa_bool_tup, isa_bool_lst, isa_bool_ro, isa_tuple_non, isa_tuple_bl, isa_tuple_int, isa_tuple_str, isa_tuple_tup, isa_tuple_lst, isa_tuple_ro, isa_list_non, isa_list_bl, isa_list_int, isa_list_str, isa_list_tup, isa_list_lst, isa_list_ro, isa_str_non, isa_str_bl, isa_str_int, isa_str_str, isa_str_tup, isa_str_lst, isa_str_ro, isl_non, isl_bl, isl_int, isl_str, isl_tup, isl_lst, isl_ro, Nat.zero_add, Nat.reduceAdd, Nat.reduceSub, Nat.reduceLeDiff, Nat.reduceLT, Nat.reducePow, Int.reduceNeg, decide_true, decide_false, Bool.not_true, Bool.not_false, Int.reduceToNat, Int.reducePow, Int.reduceAdd, Int.reduceSub, Int.reduceMul, nco, eq_self, Int.reduceEq, Int.reduceLT, Int.reduceLE, w_run1, w_run2, w_run3, fl_tup, fl_lst, ix_tup0, ix_tup1, Bool.false_eq_true, reduceCtorEq, ↓w_comp0, ↓w_comp1, wipe0, wipe1, fall_lst, bools0, bools1, Option.map_some, List.all_cons, List.all_nil, id, Bool.and_true, Bool.and_false, Bool.true_and, Bool.false_and, ↓t_rt, ↓t_nx, t_rt, t_nx, kz_int, kz_div, kz_isn0, kz_isn1, kz_isn2, kz_isn3, w_raise0, kz_isl1, kz_isl2, kz_isl3, kz_isb1, fr_t, fr_l, gfl_lst])
  refine wo_i o_refD ?_
  (try simp only [↓w_ok, ↓w_exc, ↓w_bad, ↓w_bnd, ↓w_ret, ↓w_badm, ↓w_lift, ↓o_some, ↓o_none, ↓o_map, ↓o_ite, ↓c_true, ↓b_true, ↓b_false, ↓f_nx, ↓f_rt, ↓f_bk, ↓f_ct, ↓f_ex, ↓w_var, ↓w_c, ↓w_c2, ↓w_c1, ↓w_cN, ↓w_nil, ↓w_cons, ↓w_tup, ↓w_lst, ↓w_frz, ↓w_own, ↓w_call, ↓w_no, ↓w_part, ↓w_sl, ↓w_tB, ↓w_tAnd, ↓w_tOr, ↓w_tNot, ↓w_tYes, ↓w_vAnd, ↓w_vOr, ↓w_vNot, ↓w_if, ↓w_pNil, ↓w_pCons, ↓w_dict, ↓w_lc, ↓w_iSeq, ↓w_iRng, ↓w_next, ↓w_seq, ↓w_do, ↓w_sret, ↓w_sretN, ↓w_drop, ↓w_sif, ↓w_brk, ↓w_cnt, ↓w_asg, ↓w_nm, ↓w_gnil, ↓w_gcons, ↓w_gseq, ↓w_gsub, ↓w_par, ↓w_for, ↓w_dput, ↓w_app, ↓l_nx, ↓l_ct, ↓l_bk, ↓l_rt, ↓l_ex, ↓w_loop0, ↓w_run1, ↓w_run2, ↓w_run3, ↓e_rt, ↓e_nx, ↓e_ex, e_rt, e_nx, e_ex, l_nx, l_ct, l_bk, l_rt, l_ex, k_add, k_sub, k_mul, k_div, k_mod, k_pow, k_neg, k_cmp, k_eqi, k_nei, k_divmod, k_gcd, k_abs, i_tup, i_lst, i_ro, lo_lst, st_lst, st_ro, st_tup, o_some, o_none, o_map, o_ite, c_true, b_true, b_false, f_nx, f_rt, f_bk, f_ct, f_ex, boolD_bl, intD_int, two_two, w_ok, bx_turn, bx_cells, bx_put, bx_lenc, bx_ix, bx_sub, List.getElem?_cons_zero, List.getElem?_cons_succ, List.getElem?_nil, List.set_cons_zero, List.set_cons_succ, List.map_cons, List.map_nil, List.replicate_succ, List.replicate_zero, List.cons_append, List.nil_append, List.length_cons, List.length_nil, szl, isa_int_non, isa_int_bl, isa_int_int, isa_int_str, isa_int_tup, isa_int_lst, isa_int_ro, isa_bool_non, isa_bool_bl, isa_bool_int, isa_bool_str, isa_bool_tup, isa_bool_lst, isa_bool_ro, isa_tuple_non, isa_tuple_bl, isa_tuple_int, isa_tuple_str, isa_tuple_tup, isa_tuple_lst, isa_tuple_ro, isa_list_non, isa_list_bl, isa_list_int, isa_list_str, isa_list_tup, isa_list_lst, isa_list_ro, isa_str_non, isa_str_bl, isa_str_int, isa_str_str, isa_str_tup, isa_str_lst, isa_str_ro, isl_non, isl_bl, isl_int, isl_str, isl_tup, isl_lst, isl_ro, Nat.zero_add, Nat.reduceAdd, Nat.reduceSub, Nat.reduceLeDiff, Nat.reduceLT, Nat.reducePow, Int.reduceNeg, decide_true, decide_false, Bool.not_true, Bool.not_false, Int.reduceToNat, Int.reducePow, Int.reduceAdd, Int.reduceSub, Int.reduceMul, nco, eq_self, Int.reduceEq, Int.reduceLT, Int.reduceLE, w_run1, w_run2, w_run3, fl_tup, fl_lst, ix_tup0, ix_tup1, Bool.false_eq_true, reduceCtorEq, ↓w_comp0, ↓w_comp1, wipe0, wipe1, fall_lst, bools0, bools1, Option.map_some, List.all_cons, List.all_nil, id, Bool.and_true, Bool.and_false, Bool.true_and, Bool.false_and, ↓t_rt, ↓t_nx, t_rt, t_nx, kz_int, kz_div, kz_isn0, kz_isn1, kz_isn2, kz_isn3, w_raise0, kz_isl1, kz_isl2, kz_isl3, kz_isb1, fr_t, fr_l, gfl_lst])
  refine wo_i (o_app (by simp)) ?_
  have th : ∀ s1 s2 : Int, thaw (st ++ [.lst [.tup [.int xs, .int ys], .tup [.int xg, .int yg], .tup [.int xm, .int ym], .int s1, .int s2]]) st.length 40 (.ref st.length) = some (.lst [.tup [.int xs, .int ys], .tup [.int xg, .int yg], .tup [.int xm, .int ym], .int s1, .int s2]) := fun s1 s2 => by
    simp [thaw, List.mapM_cons]
  refine ⟨⟨⟨old_app, by simp⟩, by simp [othersLow, below, belowL]⟩, _, _, rfl, th _ _, ?_⟩
  rw [List.take_left' rfl]
  (try simp only [↓w_ok, ↓w_exc, ↓w_bad, ↓w_bnd, ↓w_ret, ↓w_badm, ↓w_lift, ↓o_some, ↓o_none, ↓o_map, ↓o_ite, ↓c_true, ↓b_true, ↓b_false, ↓f_nx, ↓f_rt, ↓f_bk, ↓f_ct, ↓f_ex, ↓w_var, ↓w_c, ↓w_c2, ↓w_c1, ↓w_cN, ↓w_nil, ↓w_cons, ↓w_tup, ↓w_lst, ↓w_frz, ↓w_own, ↓w_call, ↓w_no, ↓w_part, ↓w_sl, ↓w_tB, ↓w_tAnd, ↓w_tOr, ↓w_tNot, ↓w_tYes, ↓w_vAnd, ↓w_vOr, ↓w_vNot, ↓w_if, ↓w_pNil, ↓w_pCons, ↓w_dict, ↓w_lc, ↓w_iSeq, ↓w_iRng, ↓w_next, ↓w_seq, ↓w_do, ↓w_sret, ↓w_sretN, ↓w_drop, ↓w_sif, ↓w_brk, ↓w_cnt, ↓w_asg, ↓w_nm, ↓w_gnil, ↓w_gcons, ↓w_gseq, ↓w_gsub, ↓w_par, ↓w_for, ↓w_dput, ↓w_app, ↓l_nx, ↓l_ct, ↓l_bk, ↓l_rt, ↓l_ex, ↓w_loop0, ↓w_run1, ↓w_run2, ↓w_run3, ↓e_rt, ↓e_nx, ↓e_ex, e_rt, e_nx, e_ex, l_nx, l_ct, l_bk, l_rt, l_ex, k_add, k_sub, k_mul, k_div, k_mod, k_pow, k_neg, k_cmp, k_eqi, k_nei, k_divmod, k_gcd, k_abs, i_tup, i_lst, i_ro, lo_lst, st_lst, st_ro, st_tup, o_some, o_none, o_map, o_ite, c_true, b_true, b_false, f_nx, f_rt, f_bk, f_ct, f_ex, boolD_bl, intD_int, two_two, w_ok, bx_turn, bx_cells, bx_put, bx_lenc, bx_ix, bx_sub, List.getElem?_cons_zero, List.getElem?_cons_succ, List.getElem?_nil, List.set_cons_zero, List.set_cons_succ, List.map_cons, List.map_nil, List.replicate_succ, List.replicate_zero, List.cons_append, List.nil_append, List.length_cons, List.length_nil, szl, isa_int_non, isa_int_bl, isa_int_int, isa_int_str, isa_int_tup, isa_int_lst, isa_int_ro, isa_bool_non, isa_bool_bl, isa_bool_int, isa_bool_str, isa_bool_tup, isa_bool_lst, isa_bool_ro, isa_tuple_non, isa_tuple_bl, isa_tuple_int, isa_tuple_str, isa_tuple_tup, isa_tuple_lst, isa_tuple_ro, isa_list_non, isa_list_bl, isa_list_int, isa_list_str, isa_list_tup, isa_list_lst, isa_list_ro, isa_str_non, isa_str_bl, isa_str_int, isa_str_str, isa_str_tup, isa_str_lst, isa_str_ro, isl_non, isl_bl, isl_int, isl_str, isl_tup, isl_lst, isl_ro, Nat.zero_add, Nat.reduceAdd, Nat.reduceSub, Nat.reduceLeDiff, Nat.reduceLT, Nat.reducePow, Int.reduceNeg, decide_true, decide_false, Bool.not_true, Bool.not_false, Int.reduceToNat, Int.reducePow, Int.reduceAdd, Int.reduceSub, Int.reduceMul, nco, eq_self, Int.reduceEq, Int.reduceLT, Int.reduceLE, w_run1, w_run2, w_run3, fl_tup, fl_lst, ix_tup0, ix_tup1, Bool.false_eq_true, reduceCtorEq, ↓w_comp0, ↓w_comp1, wipe0, wipe1, fall_lst, bools0, bools1, Option.map_some, List.all_cons, List.all_nil, id, Bool.and_true, Bool.and_false, Bool.true_and, Bool.false_and, ↓t_rt, ↓t_nx, t_rt, t_nx, kz_int, kz_div, kz_isn0, kz_isn1, kz_isn2, kz_isn3, w_raise0, kz_isl1, kz_isl2, kz_isl3, kz_isb1, fr_t, fr_l, gfl_lst, hr])
  refine wp_plus (k := true) ha hb hc hd hb0 hd0 ?_
  rw [eS]
  (try simp only [↓w_ok, ↓w_exc, ↓w_bad, ↓w_bnd, ↓w_ret, ↓w_badm, ↓w_lift, ↓o_some, ↓o_none, ↓o_map, ↓o_ite, ↓c_true, ↓b_true, ↓b_false, ↓f_nx, ↓f_rt, ↓f_bk, ↓f_ct, ↓f_ex, ↓w_var, ↓w_c, ↓w_c2, ↓w_c1, ↓w_cN, ↓w_nil, ↓w_cons, ↓w_tup, ↓w_lst, ↓w_frz, ↓w_own, ↓w_call, ↓w_no, ↓w_part, ↓w_sl, ↓w_tB, ↓w_tAnd, ↓w_tOr, ↓w_tNot, ↓w_tYes, ↓w_vAnd, ↓w_vOr, ↓w_vNot, ↓w_if, ↓w_pNil, ↓w_pCons, ↓w_dict, ↓w_lc, ↓w_iSeq, ↓w_iRng, ↓w_next, ↓w_seq, ↓w_do, ↓w_sret, ↓w_sretN, ↓w_drop, ↓w_sif, ↓w_brk, ↓w_cnt, ↓w_asg, ↓w_nm, ↓w_gnil, ↓w_gcons, ↓w_gseq, ↓w_gsub, ↓w_par, ↓w_for, ↓w_dput, ↓w_app, ↓l_nx, ↓l_ct, ↓l_bk, ↓l_rt, ↓l_ex, ↓w_loop0, ↓w_run1, ↓w_run2, ↓w_run3, ↓e_rt, ↓e_nx, ↓e_ex, e_rt, e_nx, e_ex, l_nx, l_ct, l_bk, l_rt, l_ex, k_add, k_sub, k_mul, k_div, k_mod, k_pow, k_neg, k_cmp, k_eqi, k_nei, k_divmod, k_gcd, k_abs, i_tup, i_lst, i_ro, lo_lst, st_lst, st_ro, st_tup, o_some, o_none, o_map, o_ite, c_true, b_true, b_false, f_nx, f_rt, f_bk, f_ct, f_ex, boolD_bl, intD_int, two_two, w_ok, bx_turn, bx_cells, bx_put, bx_lenc, bx_ix, bx_sub, List.getElem?_cons_zero, List.getElem?_cons_succ, List.getElem?_nil, List.set_cons_zero, List.set_cons_succ, List.map_cons, List.map_nil, List.replicate_succ, List.replicate_zero, List.cons_append, List.nil_append, List.length_cons, List.length_nil, szl, isa_int_non, isa_int_bl, isa_int_int, isa_int_str, isa_int_tup, isa_int_lst, isa_int_ro, isa_bool_non, isa_bool_bl, isa_bool_int, isa_bool_str, isa_bool_tup, isa_bool_lst, isa_bool_ro, isa_tuple_non, isa_tuple_bl, isa_tuple_int, isa_tuple_str, isa_tuple_tup, isa_tuple_lst, isa_tuple_ro, isa_list_non, isa_list_bl, isa_list_int, isa_list_str, isa_list_tup, isa_list_lst, isa_list_ro, isa_str_non, isa_str_bl, isa_str_int, isa_str_str, isa_str_tup, isa_str_lst, isa_str_ro, isl_non, isl_bl, isl_int, isl_str, isl_tup, isl_lst, isl_ro, Nat.zero_add, Nat.reduceAdd, Nat.reduceSub, Nat.reduceLeDiff, Nat.reduceLT, Nat.reducePow, Int.reduceNeg, decide_true, decide_false, Bool.not_true, Bool.not_false, Int.reduceToNat, Int.reducePow, Int.reduceAdd, Int.reduceSub, Int.reduceMul, nco, eq_self, Int.reduceEq, Int.reduceLT, Int.reduceLE, w_run1, w_run2, w_run3, fl_tup, fl_lst, ix_tup0, ix_tup1, Bool.false_eq_true, reduceCtorEq, ↓w_comp0, ↓w_comp1, wipe0, wipe1, fall_lst, bools0, bools1, Option.map_some, List.all_cons, List.all_nil, id, Bool.and_true, Bool.and_false, Bool.true_and, Bool.false_and, ↓t_rt, ↓t_nx, t_rt, t_nx, kz_int, kz_div, kz_isn0, kz_isn1, kz_isn2, kz_isn3, w_raise0, kz_isl1, kz_isl2, kz_isl3, kz_isb1, fr_t, fr_l, gfl_lst])
  refine wp_less (k := true) ha hb hc hd hb0 hd0 ?_
  rw [eG]
  (try simp only [↓w_ok, ↓w_exc, ↓w_bad, ↓w_bnd, ↓w_ret, ↓w_badm, ↓w_lift, ↓o_some, ↓o_none, ↓o_map, ↓o_ite, ↓c_true, ↓b_true, ↓b_false, ↓f_nx, ↓f_rt, ↓f_bk, ↓f_ct, ↓f_ex, ↓w_var, ↓w_c, ↓w_c2, ↓w_c1, ↓w_cN, ↓w_nil, ↓w_cons, ↓w_tup, ↓w_lst, ↓w_frz, ↓w_own, ↓w_call, ↓w_no, ↓w_part, ↓w_sl, ↓w_tB, ↓w_tAnd, ↓w_tOr, ↓w_tNot, ↓w_tYes, ↓w_vAnd, ↓w_vOr, ↓w_vNot, ↓w_if, ↓w_pNil, ↓w_pCons, ↓w_dict, ↓w_lc, ↓w_iSeq, ↓w_iRng, ↓w_next, ↓w_seq, ↓w_do, ↓w_sret, ↓w_sretN, ↓w_drop, ↓w_sif, ↓w_brk, ↓w_cnt, ↓w_asg, ↓w_nm, ↓w_gnil, ↓w_gcons, ↓w_gseq, ↓w_gsub, ↓w_par, ↓w_for, ↓w_dput, ↓w_app, ↓l_nx, ↓l_ct, ↓l_bk, ↓l_rt, ↓l_ex, ↓w_loop0, ↓w_run1, ↓w_run2, ↓w_run3, ↓e_rt, ↓e_nx, ↓e_ex, e_rt, e_nx, e_ex, l_nx, l_ct, l_bk, l_rt, l_ex, k_add, k_sub, k_mul, k_div, k_mod, k_pow, k_neg, k_cmp, k_eqi, k_nei, k_divmod, k_gcd, k_abs, i_tup, i_lst, i_ro, lo_lst, st_lst, st_ro, st_tup, o_some, o_none, o_map, o_ite, c_true, b_true, b_false, f_nx, f_rt, f_bk, f_ct, f_ex, boolD_bl, intD_int, two_two, w_ok, bx_turn, bx_cells, bx_put, bx_lenc, bx_ix, bx_sub, List.getElem?_cons_zero, List.getElem?_cons_succ, List.getElem?_nil, List.set_cons_zero, List.set_cons_succ, List.map_cons, List.map_nil, List.replicate_succ, List.replicate_zero, List.cons_append, List.nil_append, List.length_cons, List.length_nil, szl, isa_int_non, isa_int_bl, isa_int_int, isa_int_str, isa_int_tup, isa_int_lst, isa_int_ro, isa_bool_non, isa_bool_bl, isa_bool_int, isa_bool_str, isa_bool_tup, isa_bool_lst, isa_bool_ro, isa_tuple_non, isa_tuple_bl, isa_tuple_int, isa_tuple_str, isa_tuple_tup, isa_tuple_lst, isa_tuple_ro, isa_list_non, isa_list_bl, isa_list_int, isa_list_str, isa_list_tup, isa_list_lst, isa_list_ro, isa_str_non, isa_str_bl, isa_str_int, isa_str_str, isa_str_tup, isa_str_lst, isa_str_ro, isl_non, isl_bl, isl_int, isl_str, isl_tup, isl_lst, isl_ro, Nat.zero_add, Nat.reduceAdd, Nat.reduceSub, Nat.reduceLeDiff, Nat.reduceLT, Nat.reducePow, Int.reduceNeg, decide_true, decide_false, Bool.not_true, Bool.not_false, Int.reduceToNat, Int.reducePow, Int.reduceAdd, Int.reduceSub, Int.reduceMul, nco, eq_self, Int.reduceEq, Int.reduceLT, Int.reduceLE, w_run1, w_run2, w_run3, fl_tup, fl_lst, ix_tup0, ix_tup1, Bool.false_eq_true, reduceCtorEq, ↓w_comp0, ↓w_comp1, wipe0, wipe1, fall_lst, bools0, bools1, Option.map_some, List.all_cons, List.all_nil, id, Bool.and_true, Bool.and_false, Bool.true_and, Bool.false_and, ↓t_rt, ↓t_nx, t_rt, t_nx, kz_int, kz_div, kz_isn0, kz_isn1, kz_isn2, kz_isn3, w_raise0, kz_isl1, kz_isl2, kz_isl3, kz_isb1, fr_t, fr_l, gfl_lst])
  refine wp_times (k := true) ha hb hc hd hb0 hd0 ?_
  rw [eM]
  (try simp only [↓w_ok, ↓w_exc, ↓w_bad, ↓w_bnd, ↓w_ret, ↓w_badm, ↓w_lift, ↓o_some, ↓o_none, ↓o_map, ↓o_ite, ↓c_true, ↓b_true, ↓b_false, ↓f_nx, ↓f_rt, ↓f_bk, ↓f_ct, ↓f_ex, ↓w_var, ↓w_c, ↓w_c2, ↓w_c1, ↓w_cN, ↓w_nil, ↓w_cons, ↓w_tup, ↓w_lst, ↓w_frz, ↓w_own, ↓w_call, ↓w_no, ↓w_part, ↓w_sl, ↓w_tB, ↓w_tAnd, ↓w_tOr, ↓w_tNot, ↓w_tYes, ↓w_vAnd, ↓w_vOr, ↓w_vNot, ↓w_if, ↓w_pNil, ↓w_pCons, ↓w_dict, ↓w_lc, ↓w_iSeq, ↓w_iRng, ↓w_next, ↓w_seq, ↓w_do, ↓w_sret, ↓w_sretN, ↓w_drop, ↓w_sif, ↓w_brk, ↓w_cnt, ↓w_asg, ↓w_nm, ↓w_gnil, ↓w_gcons, ↓w_gseq, ↓w_gsub, ↓w_par, ↓w_for, ↓w_dput, ↓w_app, ↓l_nx, ↓l_ct, ↓l_bk, ↓l_rt, ↓l_ex, ↓w_loop0, ↓w_run1, ↓w_run2, ↓w_run3, ↓e_rt, ↓e_nx, ↓e_ex, e_rt, e_nx, e_ex, l_nx, l_ct, l_bk, l_rt, l_ex, k_add, k_sub, k_mul, k_div, k_mod, k_pow, k_neg, k_cmp, k_eqi, k_nei, k_divmod, k_gcd, k_abs, i_tup, i_lst, i_ro, lo_lst, st_lst, st_ro, st_tup, o_some, o_none, o_map, o_ite, c_true, b_true, b_false, f_nx, f_rt, f_bk, f_ct, f_ex, boolD_bl, intD_int, two_two, w_ok, bx_turn, bx_cells, bx_put, bx_lenc, bx_ix, bx_sub, List.getElem?_cons_zero, List.getElem?_cons_succ, List.getElem?_nil, List.set_cons_zero, List.set_cons_succ, List.map_cons, List.map_nil, List.replicate_succ, List.replicate_zero, List.cons_append, List.nil_append, List.length_cons, List.length_nil, szl, isa_int_non, isa_int_bl, isa_int_int, isa_int_str, isa_int_tup, isa_int_lst, isa_int_ro, isa_bool_non, isa_bool_bl, isa_bool_int, isa_bool_str, isa_bool_tup, isa_bool_lst, isa_bool_ro, isa_tuple_non, isa_tuple_bl, isa_tuple_int, isa_tuple_str, isa_tuple_tup, isa_tuple_lst, isa_tuple_ro, isa_list_non, isa_list_bl, isa_list_int, isa_list_str, isa_list_tup, isa_list_lst, isa_list_ro, isa_str_non, isa_str_bl, isa_str_int, isa_str_str, isa_str_tup, isa_str_lst, isa_str_ro, isl_non, isl_bl, isl_int, isl_str, isl_tup, isl_lst, isl_ro, Nat.zero_add, Nat.reduceAdd, Nat.reduceSub, Nat.reduceLeDiff, Nat.reduceLT, Nat.reducePow, Int.reduceNeg, decide_true, decide_false, Bool.not_true, Bool.not_false, Int.reduceToNat, Int.reducePow, Int.reduceAdd, Int.reduceSub, Int.reduceMul, nco, eq_self, Int.reduceEq, Int.reduceLT, Int.reduceLE, w_run1, w_run2, w_run3, fl_tup, fl_lst, ix_tup0, ix_tup1, Bool.false_eq_true, reduceCtorEq, ↓w_comp0, ↓w_comp1, wipe0, wipe1, fall_lst, bools0, bools1, Option.map_some, List.all_cons, List.all_nil, id, Bool.and_true, Bool.and_false, Bool.true_and, Bool.false_and, ↓t_rt, ↓t_nx, t_rt, t_nx, kz_int, kz_div, kz_isn0, kz_isn1, kz_isn2, kz_isn3, w_raise0, kz_isl1, kz_isl2, kz_isl3, kz_isb1, fr_t, fr_l, gfl_lst])
  refine wp_sign (k := true) (b := b) ?_
  (try simp only [↓w_ok, ↓w_exc, ↓w_bad, ↓w_bnd, ↓w_ret, ↓w_badm, ↓w_lift, ↓o_some, ↓o_none, ↓o_map, ↓o_ite, ↓c_true, ↓b_true, ↓b_false, ↓f_nx, ↓f_rt, ↓f_bk, ↓f_ct, ↓f_ex, ↓w_var, ↓w_c, ↓w_c2, ↓w_c1, ↓w_cN, ↓w_nil, ↓w_cons, ↓w_tup, ↓w_lst, ↓w_frz, ↓w_own, ↓w_call, ↓w_no, ↓w_part, ↓w_sl, ↓w_tB, ↓w_tAnd, ↓w_tOr, ↓w_tNot, ↓w_tYes, ↓w_vAnd, ↓w_vOr, ↓w_vNot, ↓w_if, ↓w_pNil, ↓w_pCons, ↓w_dict, ↓w_lc, ↓w_iSeq, ↓w_iRng, ↓w_next, ↓w_seq, ↓w_do, ↓w_sret, ↓w_sretN, ↓w_drop, ↓w_sif, ↓w_brk, ↓w_cnt, ↓w_asg, ↓w_nm, ↓w_gnil, ↓w_gcons, ↓w_gseq, ↓w_gsub, ↓w_par, ↓w_for, ↓w_dput, ↓w_app, ↓l_nx, ↓l_ct, ↓l_bk, ↓l_rt, ↓l_ex, ↓w_loop0, ↓w_run1, ↓w_run2, ↓w_run3, ↓e_rt, ↓e_nx, ↓e_ex, e_rt, e_nx, e_ex, l_nx, l_ct, l_bk, l_rt, l_ex, k_add, k_sub, k_mul, k_div, k_mod, k_pow, k_neg, k_cmp, k_eqi, k_nei, k_divmod, k_gcd, k_abs, i_tup, i_lst, i_ro, lo_lst, st_lst, st_ro, st_tup, o_some, o_none, o_map, o_ite, c_true, b_true, b_false, f_nx, f_rt, f_bk, f_ct, f_ex, boolD_bl, intD_int, two_two, w_ok, bx_turn, bx_cells, bx_put, bx_lenc, bx_ix, bx_sub, List.getElem?_cons_zero, List.getElem?_cons_succ, List.getElem?_nil, List.set_cons_zero, List.set_cons_succ, List.map_cons, List.map_nil, List.replicate_succ, List.replicate_zero, List.cons_append, List.nil_append, List.length_cons, List.length_nil, szl, isa_int_non, isa_int_bl, isa_int_int, isa_int_str, isa_int_tup, isa_int_lst, isa_int_ro, isa_bool_non, isa_bool_bl, isa_bool_int, isa_bool_str, isa_bool_tup, isa_bool_lst, isa_bool_ro, isa_tuple_non, isa_tuple_bl, isa_tuple_int, isa_tuple_str, isa_tuple_tup, isa_tuple_lst, isa_tuple_ro, isa_list_non, isa_list_bl, isa_list_int, isa_list_str, isa_list_tup, isa_list_lst, isa_list_ro, isa_str_non, isa_str_bl, isa_str_int, isa_str_str, isa_str_tup, isa_str_lst, isa_str_ro, isl_non, isl_bl, isl_int, isl_str, isl_tup, isl_lst, isl_ro, Nat.zero_add, Nat.reduceAdd, Nat.reduceSub, Nat.reduceLeDiff, Nat.reduceLT, Nat.reducePow, Int.reduceNeg, decide_true, decide_false, Bool.not_true, Bool.not_false, Int.reduceToNat, Int.reducePow, Int.reduceAdd, Int.reduceSub, Int.reduceMul, nco, eq_self, Int.reduceEq, Int.reduceLT, Int.reduceLE, w_run1, w_run2, w_run3, fl_tup, fl_lst, ix_tup0, ix_tup1, Bool.false_eq_true, reduceCtorEq, ↓w_comp0, ↓w_comp1, wipe0, wipe1, fall_lst, bools0, bools1, Option.map_some, List.all_cons, List.all_nil, id, Bool.and_true, Bool.and_false, Bool.true_and, Bool.false_and, ↓t_rt, ↓t_nx, t_rt, t_nx, kz_int, kz_div, kz_isn0, kz_isn1, kz_isn2, kz_isn3, w_raise0, kz_isl1, kz_isl2, kz_isl3, kz_isb1, fr_t, fr_l, gfl_lst])
  refine wp_comp (k := true) ha hb hc hd hb0 hd0 eG ?_
  (try simp only [↓w_ok, ↓w_exc, ↓w_bad, ↓w_bnd, ↓w_ret, ↓w_badm, ↓w_lift, ↓o_some, ↓o_none, ↓o_map, ↓o_ite, ↓c_true, ↓b_true, ↓b_false, ↓f_nx, ↓f_rt, ↓f_bk, ↓f_ct, ↓f_ex, ↓w_var, ↓w_c, ↓w_c2, ↓w_c1, ↓w_cN, ↓w_nil, ↓w_cons, ↓w_tup, ↓w_lst, ↓w_frz, ↓w_own, ↓w_call, ↓w_no, ↓w_part, ↓w_sl, ↓w_tB, ↓w_tAnd, ↓w_tOr, ↓w_tNot, ↓w_tYes, ↓w_vAnd, ↓w_vOr, ↓w_vNot, ↓w_if, ↓w_pNil, ↓w_pCons, ↓w_dict, ↓w_lc, ↓w_iSeq, ↓w_iRng, ↓w_next, ↓w_seq, ↓w_do, ↓w_sret, ↓w_sretN, ↓w_drop, ↓w_sif, ↓w_brk, ↓w_cnt, ↓w_asg, ↓w_nm, ↓w_gnil, ↓w_gcons, ↓w_gseq, ↓w_gsub, ↓w_par, ↓w_for, ↓w_dput, ↓w_app, ↓l_nx, ↓l_ct, ↓l_bk, ↓l_rt, ↓l_ex, ↓w_loop0, ↓w_run1, ↓w_run2, ↓w_run3, ↓e_rt, ↓e_nx, ↓e_ex, e_rt, e_nx, e_ex, l_nx, l_ct, l_bk, l_rt, l_ex, k_add, k_sub, k_mul, k_div, k_mod, k_pow, k_neg, k_cmp, k_eqi, k_nei, k_divmod, k_gcd, k_abs, i_tup, i_lst, i_ro, lo_lst, st_lst, st_ro, st_tup, o_some, o_none, o_map, o_ite, c_true, b_true, b_false, f_nx, f_rt, f_bk, f_ct, f_ex, boolD_bl, intD_int, two_two, w_ok, bx_turn, bx_cells, bx_put, bx_lenc, bx_ix, bx_sub, List.getElem?_cons_zero, List.getElem?_cons_succ, List.getElem?_nil, List.set_cons_zero, List.set_cons_succ, List.map_cons, List.map_nil, List.replicate_succ, List.replicate_zero, List.cons_append, List.nil_append, List.length_cons, List.length_nil, szl, isa_int_non, isa_int_bl, isa_int_int, isa_int_str, isa_int_tup, isa_int_lst, isa_int_ro, isa_bool_non, isa_bool_bl, isa_bool_int, isa_bool_str, isa_bool_tup, isa_bool_lst, isa_bool_ro, isa_tuple_non, isa_tuple_bl, isa_tuple_int, isa_tuple_str, isa_tuple_tup, isa_tuple_lst, isa_tuple_ro, isa_list_non, isa_list_bl, isa_list_int, isa_list_str, isa_list_tup, isa_list_lst, isa_list_ro, isa_str_non, isa_str_bl, isa_str_int, isa_str_str, isa_str_tup, isa_str_lst, isa_str_ro, isl_non, isl_bl, isl_int, isl_str, isl_tup, isl_lst, isl_ro, Nat.zero_add, Nat.reduceAdd, Nat.reduceSub, Nat.reduceLeDiff, Nat.reduceLT, Nat.reducePow, Int.reduceNeg, decide_true, decide_false, Bool.not_true, Bool.not_false, Int.reduceToNat, Int.reducePow, Int.reduceAdd, Int.reduceSub, Int.reduceMul, nco, eq_self, Int.reduceEq, Int.reduceLT, Int.reduceLE, w_run1, w_run2, w_run3, fl_tup, fl_lst, ix_tup0, ix_tup1, Bool.false_eq_true, reduceCtorEq, ↓w_comp0, ↓w_comp1, wipe0, wipe1, fall_lst, bools0, bools1, Option.map_some, List.all_cons, List.all_nil, id, Bool.and_true, Bool.and_false, Bool.true_and, Bool.false_and, ↓t_rt, ↓t_nx, t_rt, t_nx, kz_int, kz_div, kz_isn0, kz_isn1, kz_isn2, kz_isn3, w_raise0, kz_isl1, kz_isl2, kz_isl3, kz_isb1, fr_t, fr_l, gfl_lst, ixl0, ixl1, ixl2])
  refine wp_plus (k := false) ha hb hc hd hb0 hd0 ?_
  rw [eS]
  (try simp only [↓w_ok, ↓w_exc, ↓w_bad, ↓w_bnd, ↓w_ret, ↓w_badm, ↓w_lift, ↓o_some, ↓o_none, ↓o_map, ↓o_ite, ↓c_true, ↓b_true, ↓b_false, ↓f_nx, ↓f_rt, ↓f_bk, ↓f_ct, ↓f_ex, ↓w_var, ↓w_c, ↓w_c2, ↓w_c1, ↓w_cN, ↓w_nil, ↓w_cons, ↓w_tup, ↓w_lst, ↓w_frz, ↓w_own, ↓w_call, ↓w_no, ↓w_part, ↓w_sl, ↓w_tB, ↓w_tAnd, ↓w_tOr, ↓w_tNot, ↓w_tYes, ↓w_vAnd, ↓w_vOr, ↓w_vNot, ↓w_if, ↓w_pNil, ↓w_pCons, ↓w_dict, ↓w_lc, ↓w_iSeq, ↓w_iRng, ↓w_next, ↓w_seq, ↓w_do, ↓w_sret, ↓w_sretN, ↓w_drop, ↓w_sif, ↓w_brk, ↓w_cnt, ↓w_asg, ↓w_nm, ↓w_gnil, ↓w_gcons, ↓w_gseq, ↓w_gsub, ↓w_par, ↓w_for, ↓w_dput, ↓w_app, ↓l_nx, ↓l_ct, ↓l_bk, ↓l_rt, ↓l_ex, ↓w_loop0, ↓w_run1, ↓w_run2, ↓w_run3, ↓e_rt, ↓e_nx, ↓e_ex, e_rt, e_nx, e_ex, l_nx, l_ct, l_bk, l_rt, l_ex, k_add, k_sub, k_mul, k_div, k_mod, k_pow, k_neg, k_cmp, k_eqi, k_nei, k_divmod, k_gcd, k_abs, i_tup, i_lst, i_ro, lo_lst, st_lst, st_ro, st_tup, o_some, o_none, o_map, o_ite, c_true, b_true, b_false, f_nx, f_rt, f_bk, f_ct, f_ex, boolD_bl, intD_int, two_two, w_ok, bx_turn, bx_cells, bx_put, bx_lenc, bx_ix, bx_sub, List.getElem?_cons_zero, List.getElem?_cons_succ, List.getElem?_nil, List.set_cons_zero, List.set_cons_succ, List.map_cons, List.map_nil, List.replicate_succ, List.replicate_zero, List.cons_append, List.nil_append, List.length_cons, List.length_nil, szl, isa_int_non, isa_int_bl, isa_int_int, isa_int_str, isa_int_tup, isa_int_lst, isa_int_ro, isa_bool_non, isa_bool_bl, isa_bool_int, isa_bool_str, isa_bool_tup, isa_bool_lst, isa_bool_ro, isa_tuple_non, isa_tuple_bl, isa_tuple_int, isa_tuple_str, isa_tuple_tup, isa_tuple_lst, isa_tuple_ro, isa_list_non, isa_list_bl, isa_list_int, isa_list_str, isa_list_tup, isa_list_lst, isa_list_ro, isa_str_non, isa_str_bl, isa_str_int, isa_str_str, isa_str_tup, isa_str_lst, isa_str_ro, isl_non, isl_bl, isl_int, isl_str, isl_tup, isl_lst, isl_ro, Nat.zero_add, Nat.reduceAdd, Nat.reduceSub, Nat.reduceLeDiff, Nat.reduceLT, Nat.reducePow, Int.reduceNeg, decide_true, decide_false, Bool.not_true, Bool.not_false, Int.reduceToNat, Int.reducePow, Int.reduceAdd, Int.reduceSub, Int.reduceMul, nco, eq_self, Int.reduceEq, Int.reduceLT, Int.reduceLE, w_run1, w_run2, w_run3, fl_tup, fl_lst, ix_tup0, ix_tup1, Bool.false_eq_true, reduceCtorEq, ↓w_comp0, ↓w_comp1, wipe0, wipe1, fall_lst, bools0, bools1, Option.map_some, List.all_cons, List.all_nil, id, Bool.and_true, Bool.and_false, Bool.true_and, Bool.false_and, ↓t_rt, ↓t_nx, t_rt, t_nx, kz_int, kz_div, kz_isn0, kz_isn1, kz_isn2, kz_isn3, w_raise0, kz_isl1, kz_isl2, kz_isl3, kz_isb1, fr_t, fr_l, gfl_lst, ixl0, ixl1, ixl2])
  refine wp_less (k := false) ha hb hc hd hb0 hd0 ?_
  rw [eG]
  (try simp only [↓w_ok, ↓w_exc, ↓w_bad, ↓w_bnd, ↓w_ret, ↓w_badm, ↓w_lift, ↓o_some, ↓o_none, ↓o_map, ↓o_ite, ↓c_true, ↓b_true, ↓b_false, ↓f_nx, ↓f_rt, ↓f_bk, ↓f_ct, ↓f_ex, ↓w_var, ↓w_c, ↓w_c2, ↓w_c1, ↓w_cN, ↓w_nil, ↓w_cons, ↓w_tup, ↓w_lst, ↓w_frz, ↓w_own, ↓w_call, ↓w_no, ↓w_part, ↓w_sl, ↓w_tB, ↓w_tAnd, ↓w_tOr, ↓w_tNot, ↓w_tYes, ↓w_vAnd, ↓w_vOr, ↓w_vNot, ↓w_if, ↓w_pNil, ↓w_pCons, ↓w_dict, ↓w_lc, ↓w_iSeq, ↓w_iRng, ↓w_next, ↓w_seq, ↓w_do, ↓w_sret, ↓w_sretN, ↓w_drop, ↓w_sif, ↓w_brk, ↓w_cnt, ↓w_asg, ↓w_nm, ↓w_gnil, ↓w_gcons, ↓w_gseq, ↓w_gsub, ↓w_par, ↓w_for, ↓w_dput, ↓w_app, ↓l_nx, ↓l_ct, ↓l_bk, ↓l_rt, ↓l_ex, ↓w_loop0, ↓w_run1, ↓w_run2, ↓w_run3, ↓e_rt, ↓e_nx, ↓e_ex, e_rt, e_nx, e_ex, l_nx, l_ct, l_bk, l_rt, l_ex, k_add, k_sub, k_mul, k_div, k_mod, k_pow, k_neg, k_cmp, k_eqi, k_nei, k_divmod, k_gcd, k_abs, i_tup, i_lst, i_ro, lo_lst, st_lst, st_ro, st_tup, o_some, o_none, o_map, o_ite, c_true, b_true, b_false, f_nx, f_rt, f_bk, f_ct, f_ex, boolD_bl, intD_int, two_two, w_ok, bx_turn, bx_cells, bx_put, bx_lenc, bx_ix, bx_sub, List.getElem?_cons_zero, List.getElem?_cons_succ, List.getElem?_nil, List.set_cons_zero, List.set_cons_succ, List.map_cons, List.map_nil, List.replicate_succ, List.replicate_zero, List.cons_append, List.nil_append, List.length_cons, List.length_nil, szl, isa_int_non, isa_int_bl, isa_int_int, isa_int_str, isa_int_tup, isa_int_lst, isa_int_ro, isa_bool_non, isa_bool_bl, isa_bool_int, isa_bool_str, isa_bool_tup, isa_bool_lst, isa_bool_ro, isa_tuple_non, isa_tuple_bl, isa_tuple_int, isa_tuple_str, isa_tuple_tup, isa_tuple_lst, isa_tuple_ro, isa_list_non, isa_list_bl, isa_list_int, isa_list_str, isa_list_tup, isa_list_lst, isa_list_ro, isa_str_non, isa_str_bl, isa_str_int, isa_str_str, isa_str_tup, isa_str_lst, isa_str_ro, isl_non, isl_bl, isl_int, isl_str, isl_tup, isl_lst, isl_ro, Nat.zero_add, Nat.reduceAdd, Nat.reduceSub, Nat.reduceLeDiff, Nat.reduceLT, Nat.reducePow, Int.reduceNeg, decide_true, decide_false, Bool.not_true, Bool.not_false, Int.reduceToNat, Int.reducePow, Int.reduceAdd, Int.reduceSub, Int.reduceMul, nco, eq_self, Int.reduceEq, Int.reduceLT, Int.reduceLE, w_run1, w_run2, w_run3, fl_tup, fl_lst, ix_tup0, ix_tup1, Bool.false_eq_true, reduceCtorEq, ↓w_comp0, ↓w_comp1, wipe0, wipe1, fall_lst, bools0, bools1, Option.map_some, List.all_cons, List.all_nil, id, Bool.and_true, Bool.and_false, Bool.true_and, Bool.false_and, ↓t_rt, ↓t_nx, t_rt, t_nx, kz_int, kz_div, kz_isn0, kz_isn1, kz_isn2, kz_isn3, w_raise0, kz_isl1, kz_isl2, kz_isl3, kz_isb1, fr_t, fr_l, gfl_lst, ixl0, ixl1, ixl2])
  refine wp_times (k := false) ha hb hc hd hb0 hd0 ?_
  rw [eM]
  (try simp only [↓w_ok, ↓w_exc, ↓w_bad, ↓w_bnd, ↓w_ret, ↓w_badm, ↓w_lift, ↓o_some, ↓o_none, ↓o_map, ↓o_ite, ↓c_true, ↓b_true, ↓b_false, ↓f_nx, ↓f_rt, ↓f_bk, ↓f_ct, ↓f_ex, ↓w_var, ↓w_c, ↓w_c2, ↓w_c1, ↓w_cN, ↓w_nil, ↓w_cons, ↓w_tup, ↓w_lst, ↓w_frz, ↓w_own, ↓w_call, ↓w_no, ↓w_part, ↓w_sl, ↓w_tB, ↓w_tAnd, ↓w_tOr, ↓w_tNot, ↓w_tYes, ↓w_vAnd, ↓w_vOr, ↓w_vNot, ↓w_if, ↓w_pNil, ↓w_pCons, ↓w_dict, ↓w_lc, ↓w_iSeq, ↓w_iRng, ↓w_next, ↓w_seq, ↓w_do, ↓w_sret, ↓w_sretN, ↓w_drop, ↓w_sif, ↓w_brk, ↓w_cnt, ↓w_asg, ↓w_nm, ↓w_gnil, ↓w_gcons, ↓w_gseq, ↓w_gsub, ↓w_par, ↓w_for, ↓w_dput, ↓w_app, ↓l_nx, ↓l_ct, ↓l_bk, ↓l_rt, ↓l_ex, ↓w_loop0, ↓w_run1, ↓w_run2, ↓w_run3, ↓e_rt, ↓e_nx, ↓e_ex, e_rt, e_nx, e_ex, l_nx, l_ct, l_bk, l_rt, l_ex, k_add, k_sub, k_mul, k_div, k_mod, k_pow, k_neg, k_cmp, k_eqi, k_nei, k_divmod, k_gcd, k_abs, i_tup, i_lst, i_ro, lo_lst, st_lst, st_ro, st_tup, o_some, o_none, o_map, o_ite, c_true, b_true, b_false, f_nx, f_rt, f_bk, f_ct, f_ex, boolD_bl, intD_int, two_two, w_ok, bx_turn, bx_cells, bx_put, bx_lenc, bx_ix, bx_sub, List.getElem?_cons_zero, List.getElem?_cons_succ, List.getElem?_nil, List.set_cons_zero, List.set_cons_succ, List.map_cons, List.map_nil, List.replicate_succ, List.replicate_zero, List.cons_append, List.nil_append, List.length_cons, List.length_nil, szl, isa_int_non, isa_int_bl, isa_int_int, isa_int_str, isa_int_tup, isa_int_lst, isa_int_ro, isa_bool_non, isa_bool_bl, isa_bool_int, isa_bool_str, isa_bool_tup, isa_bool_lst, isa_bool_ro, isa_tuple_non, isa_tuple_bl, isa_tuple_int, isa_tuple_str, isa_tuple_tup, isa_tuple_lst, isa_tuple_ro, isa_list_non, isa_list_bl, isa_list_int, isa_list_str, isa_list_tup, isa_list_lst, isa_list_ro, isa_str_non, isa_str_bl, isa_str_int, isa_str_str, isa_str_tup, isa_str_lst, isa_str_ro, isl_non, isl_bl, isl_int, isl_str, isl_tup, isl_lst, isl_ro, Nat.zero_add, Nat.reduceAdd, Nat.reduceSub, Nat.reduceLeDiff, Nat.reduceLT, Nat.reducePow, Int.reduceNeg, decide_true, decide_false, Bool.not_true, Bool.not_false, Int.reduceToNat, Int.reducePow, Int.reduceAdd, Int.reduceSub, Int.reduceMul, nco, eq_self, Int.reduceEq, Int.reduceLT, Int.reduceLE, w_run1, w_run2, w_run3, fl_tup, fl_lst, ix_tup0, ix_tup1, Bool.false_eq_true, reduceCtorEq, ↓w_comp0, ↓w_comp1, wipe0, wipe1, fall_lst, bools0, bools1, Option.map_some, List.all_cons, List.all_nil, id, Bool.and_true, Bool.and_false, Bool.true_and, Bool.false_and, ↓t_rt, ↓t_nx, t_rt, t_nx, kz_int, kz_div, kz_isn0, kz_isn1, kz_isn2, kz_isn3, w_raise0, kz_isl1, kz_isl2, kz_isl3, kz_isb1, fr_t, fr_l, gfl_lst, ixl0, ixl1, ixl2])
  refine wp_sign (k := false) (b := b) ?_
  (try simp only [↓w_ok, ↓w_exc, ↓w_bad, ↓w_bnd, ↓w_ret, ↓w_badm, ↓w_lift, ↓o_some, ↓o_none, ↓o_map, ↓o_ite, ↓c_true, ↓b_true, ↓b_false, ↓f_nx, ↓f_rt, ↓f_bk, ↓f_ct, ↓f_ex, ↓w_var, ↓w_c, ↓w_c2, ↓w_c1, ↓w_cN, ↓w_nil, ↓w_cons, ↓w_tup, ↓w_lst, ↓w_frz, ↓w_own, ↓w_call, ↓w_no, ↓w_part, ↓w_sl, ↓w_tB, ↓w_tAnd, ↓w_tOr, ↓w_tNot, ↓w_tYes, ↓w_vAnd, ↓w_vOr, ↓w_vNot, ↓w_if, ↓w_pNil, ↓w_pCons, ↓w_dict, ↓w_lc, ↓w_iSeq, ↓w_iRng, ↓w_next, ↓w_seq, ↓w_do, ↓w_sret, ↓w_sretN, ↓w_drop, ↓w_sif, ↓w_brk, ↓w_cnt, ↓w_asg, ↓w_nm, ↓w_gnil, ↓w_gcons, ↓w_gseq, ↓w_gsub, ↓w_par, ↓w_for, ↓w_dput, ↓w_app, ↓l_nx, ↓l_ct, ↓l_bk, ↓l_rt, ↓l_ex, ↓w_loop0, ↓w_run1, ↓w_run2, ↓w_run3, ↓e_rt, ↓e_nx, ↓e_ex, e_rt, e_nx, e_ex, l_nx, l_ct, l_bk, l_rt, l_ex, k_add, k_sub, k_mul, k_div, k_mod, k_pow, k_neg, k_cmp, k_eqi, k_nei, k_divmod, k_gcd, k_abs, i_tup, i_lst, i_ro, lo_lst, st_lst, st_ro, st_tup, o_some, o_none, o_map, o_ite, c_true, b_true, b_false, f_nx, f_rt, f_bk, f_ct, f_ex, boolD_bl, intD_int, two_two, w_ok, bx_turn, bx_cells, bx_put, bx_lenc, bx_ix, bx_sub, List.getElem?_cons_zero, List.getElem?_cons_succ, List.getElem?_nil, List.set_cons_zero, List.set_cons_succ, List.map_cons, List.map_nil, List.replicate_succ, List.replicate_zero, List.cons_append, List.nil_append, List.length_cons, List.length_nil, szl, isa_int_non, isa_int_bl, isa_int_int, isa_int_str, isa_int_tup, isa_int_lst, isa_int_ro, isa_bool_non, isa_bool_bl, isa_bool_int, isa_bool_str, isa_bool_tup, isa_bool_lst, isa_bool_ro, isa_tuple_non, isa_tuple_bl, isa_tuple_int, isa_tuple_str, isa_tuple_tup, isa_tuple_lst, isa_tuple_ro, isa_list_non, isa_list_bl, isa_list_int, isa_list_str, isa_list_tup, isa_list_lst, isa_list_ro, isa_str_non, isa_str_bl, isa_str_int, isa_str_str, isa_str_tup, isa_str_lst, isa_str_ro, isl_non, isl_bl, isl_int, isl_str, isl_tup, isl_lst, isl_ro, Nat.zero_add, Nat.reduceAdd, Nat.reduceSub, Nat.reduceLeDiff, Nat.reduceLT, Nat.reducePow, Int.reduceNeg, decide_true, decide_false, Bool.not_true, Bool.not_false, Int.reduceToNat, Int.reducePow, Int.reduceAdd, Int.reduceSub, Int.reduceMul, nco, eq_self, Int.reduceEq, Int.reduceLT, Int.reduceLE, w_run1, w_run2, w_run3, fl_tup, fl_lst, ix_tup0, ix_tup1, Bool.false_eq_true, reduceCtorEq, ↓w_comp0, ↓w_comp1, wipe0, wipe1, fall_lst, bools0, bools1, Option.map_some, List.all_cons, List.all_nil, id, Bool.and_true, Bool.and_false, Bool.true_and, Bool.false_and, ↓t_rt, ↓t_nx, t_rt, t_nx, kz_int, kz_div, kz_isn0, kz_isn1, kz_isn2, kz_isn3, w_raise0, kz_isl1, kz_isl2, kz_isl3, kz_isb1, fr_t, fr_l, gfl_lst, ixl0, ixl1, ixl2])
  refine wp_comp (k := false) ha hb hc hd hb0 hd0 eG ?_
  (try simp only [↓w_ok, ↓w_exc, ↓w_bad, ↓w_bnd, ↓w_ret, ↓w_badm, ↓w_lift, ↓o_some, ↓o_none, ↓o_map, ↓o_ite, ↓c_true, ↓b_true, ↓b_false, ↓f_nx, ↓f_rt, ↓f_bk, ↓f_ct, ↓f_ex, ↓w_var, ↓w_c, ↓w_c2, ↓w_c1, ↓w_cN, ↓w_nil, ↓w_cons, ↓w_tup, ↓w_lst, ↓w_frz, ↓w_own, ↓w_call, ↓w_no, ↓w_part, ↓w_sl, ↓w_tB, ↓w_tAnd, ↓w_tOr, ↓w_tNot, ↓w_tYes, ↓w_vAnd, ↓w_vOr, ↓w_vNot, ↓w_if, ↓w_pNil, ↓w_pCons, ↓w_dict, ↓w_lc, ↓w_iSeq, ↓w_iRng, ↓w_next, ↓w_seq, ↓w_do, ↓w_sret, ↓w_sretN, ↓w_drop, ↓w_sif, ↓w_brk, ↓w_cnt, ↓w_asg, ↓w_nm, ↓w_gnil, ↓w_gcons, ↓w_gseq, ↓w_gsub, ↓w_par, ↓w_for, ↓w_dput, ↓w_app, ↓l_nx, ↓l_ct, ↓l_bk, ↓l_rt, ↓l_ex, ↓w_loop0, ↓w_run1, ↓w_run2, ↓w_run3, ↓e_rt, ↓e_nx, ↓e_ex, e_rt, e_nx, e_ex, l_nx, l_ct, l_bk, l_rt, l_ex, k_add, k_sub, k_mul, k_div, k_mod, k_pow, k_neg, k_cmp, k_eqi, k_nei, k_divmod, k_gcd, k_abs, i_tup, i_lst, i_ro, lo_lst, st_lst, st_ro, st_tup, o_some, o_none, o_map, o_ite, c_true, b_true, b_false, f_nx, f_rt, f_bk, f_ct, f_ex, boolD_bl, intD_int, two_two, w_ok, bx_turn, bx_cells, bx_put, bx_lenc, bx_ix, bx_sub, List.getElem?_cons_zero, List.getElem?_cons_succ, List.getElem?_nil, List.set_cons_zero, List.set_cons_succ, List.map_cons, List.map_nil, List.replicate_succ, List.replicate_zero, List.cons_append, List.nil_append, List.length_cons, List.length_nil, szl, isa_int_non, isa_int_bl, isa_int_int, isa_int_str, isa_int_tup, isa_int_lst, isa_int_ro, isa_bool_non, isa_bool_bl, isa_bool_int, isa_bool_str, isa_bool_tup, isa_bool_lst, isa_bool_ro, isa_tuple_non, isa_tuple_bl, isa_tuple_int, isa_tuple_str, isa_tuple_tup, isa_tuple_lst, isa_tuple_ro, isa_list_non, isa_list_bl, isa_list_int, isa_list_str, isa_list_tup, isa_list_lst, isa_list_ro, isa_str_non, isa_str_bl, isa_str_int, isa_str_str, isa_str_tup, isa_str_lst, isa_str_ro, isl_non, isl_bl, isl_int, isl_str, isl_tup, isl_lst, isl_ro, Nat.zero_add, Nat.reduceAdd, Nat.reduceSub, Nat.reduceLeDiff, Nat.reduceLT, Nat.reducePow, Int.reduceNeg, decide_true, decide_false, Bool.not_true, Bool.not_false, Int.reduceToNat, Int.reducePow, Int.reduceAdd, Int.reduceSub, Int.reduceMul, nco, eq_self, Int.reduceEq, Int.reduceLT, Int.reduceLE, w_run1, w_run2, w_run3, fl_tup, fl_lst, ix_tup0, ix_tup1, Bool.false_eq_true, reduceCtorEq, ↓w_comp0, ↓w_comp1, wipe0, wipe1, fall_lst, bools0, bools1, Option.map_some, List.all_cons, List.all_nil, id, Bool.and_true, Bool.and_false, Bool.true_and, Bool.false_and, ↓t_rt, ↓t_nx, t_rt, t_nx, kz_int, kz_div, kz_isn0, kz_isn1, kz_isn2, kz_isn3, w_raise0, kz_isl1, kz_isl2, kz_isl3, kz_isb1, fr_t, fr_l, gfl_lst, ixl0, ixl1, ixl2])
  refine wo_i kadd5 ?_
  (try simp only [↓w_ok, ↓w_exc, ↓w_bad, ↓w_bnd, ↓w_ret, ↓w_badm, ↓w_lift, ↓o_some, ↓o_none, ↓o_map, ↓o_ite, ↓c_true, ↓b_true, ↓b_false, ↓f_nx, ↓f_rt, ↓f_bk, ↓f_ct, ↓f_ex, ↓w_var, ↓w_c, ↓w_c2, ↓w_c1, ↓w_cN, ↓w_nil, ↓w_cons, ↓w_tup, ↓w_lst, ↓w_frz, ↓w_own, ↓w_call, ↓w_no, ↓w_part, ↓w_sl, ↓w_tB, ↓w_tAnd, ↓w_tOr, ↓w_tNot, ↓w_tYes, ↓w_vAnd, ↓w_vOr, ↓w_vNot, ↓w_if, ↓w_pNil, ↓w_pCons, ↓w_dict, ↓w_lc, ↓w_iSeq, ↓w_iRng, ↓w_next, ↓w_seq, ↓w_do, ↓w_sret, ↓w_sretN, ↓w_drop, ↓w_sif, ↓w_brk, ↓w_cnt, ↓w_asg, ↓w_nm, ↓w_gnil, ↓w_gcons, ↓w_gseq, ↓w_gsub, ↓w_par, ↓w_for, ↓w_dput, ↓w_app, ↓l_nx, ↓l_ct, ↓l_bk, ↓l_rt, ↓l_ex, ↓w_loop0, ↓w_run1, ↓w_run2, ↓w_run3, ↓e_rt, ↓e_nx, ↓e_ex, e_rt, e_nx, e_ex, l_nx, l_ct, l_bk, l_rt, l_ex, k_add, k_sub, k_mul, k_div, k_mod, k_pow, k_neg, k_cmp, k_eqi, k_nei, k_divmod, k_gcd, k_abs, i_tup, i_lst, i_ro, lo_lst, st_lst, st_ro, st_tup, o_some, o_none, o_map, o_ite, c_true, b_true, b_false, f_nx, f_rt, f_bk, f_ct, f_ex, boolD_bl, intD_int, two_two, w_ok, bx_turn, bx_cells, bx_put, bx_lenc, bx_ix, bx_sub, List.getElem?_cons_zero, List.getElem?_cons_succ, List.getElem?_nil, List.set_cons_zero, List.set_cons_succ, List.map_cons, List.map_nil, List.replicate_succ, List.replicate_zero, List.cons_append, List.nil_append, List.length_cons, List.length_nil, szl, isa_int_non, isa_int_bl, isa_int_int, isa_int_str, isa_int_tup, isa_int_lst, isa_int_ro, isa_bool_non, isa_bool_bl, isa_bool_int, isa_bool_str, isa_bool_tup, isa_bool_lst, isa_bool_ro, isa_tuple_non, isa_tuple_bl, isa_tuple_int, isa_tuple_str, isa_tuple_tup, isa_tuple_lst, isa_tuple_ro, isa_list_non, isa_list_bl, isa_list_int, isa_list_str, isa_list_tup, isa_list_lst, isa_list_ro, isa_str_non, isa_str_bl, isa_str_int, isa_str_str, isa_str_tup, isa_str_lst, isa_str_ro, isl_non, isl_bl, isl_int, isl_str, isl_tup, isl_lst, isl_ro, Nat.zero_add, Nat.reduceAdd, Nat.reduceSub, Nat.reduceLeDiff, Nat.reduceLT, Nat.reducePow, Int.reduceNeg, decide_true, decide_false, Bool.not_true, Bool.not_false, Int.reduceToNat, Int.reducePow, Int.reduceAdd, Int.reduceSub, Int.reduceMul, nco, eq_self, Int.reduceEq, Int.reduceLT, Int.reduceLE, w_run1, w_run2, w_run3, fl_tup, fl_lst, ix_tup0, ix_tup1, Bool.false_eq_true, reduceCtorEq, ↓w_comp0, ↓w_comp1, wipe0, wipe1, fall_lst, bools0, bools1, Option.map_some, List.all_cons, List.all_nil, id, Bool.and_true, Bool.and_false, Bool.true_and, Bool.false_and, ↓t_rt, ↓t_nx, t_rt, t_nx, kz_int, kz_div, kz_isn0, kz_isn1, kz_isn2, kz_isn3, w_raise0, kz_isl1, kz_isl2, kz_isl3, kz_isb1, fr_t, fr_l, gfl_lst])
  refine wp_plus (k := true) hc hd ha hb hd0 hb0 ?_
  rw [eS2]
  (try simp only [↓w_ok, ↓w_exc, ↓w_bad, ↓w_bnd, ↓w_ret, ↓w_badm, ↓w_lift, ↓o_some, ↓o_none, ↓o_map, ↓o_ite, ↓c_true, ↓b_true, ↓b_false, ↓f_nx, ↓f_rt, ↓f_bk, ↓f_ct, ↓f_ex, ↓w_var, ↓w_c, ↓w_c2, ↓w_c1, ↓w_cN, ↓w_nil, ↓w_cons, ↓w_tup, ↓w_lst, ↓w_frz, ↓w_own, ↓w_call, ↓w_no, ↓w_part, ↓w_sl, ↓w_tB, ↓w_tAnd, ↓w_tOr, ↓w_tNot, ↓w_tYes, ↓w_vAnd, ↓w_vOr, ↓w_vNot, ↓w_if, ↓w_pNil, ↓w_pCons, ↓w_dict, ↓w_lc, ↓w_iSeq, ↓w_iRng, ↓w_next, ↓w_seq, ↓w_do, ↓w_sret, ↓w_sretN, ↓w_drop, ↓w_sif, ↓w_brk, ↓w_cnt, ↓w_asg, ↓w_nm, ↓w_gnil, ↓w_gcons, ↓w_gseq, ↓w_gsub, ↓w_par, ↓w_for, ↓w_dput, ↓w_app, ↓l_nx, ↓l_ct, ↓l_bk, ↓l_rt, ↓l_ex, ↓w_loop0, ↓w_run1, ↓w_run2, ↓w_run3, ↓e_rt, ↓e_nx, ↓e_ex, e_rt, e_nx, e_ex, l_nx, l_ct, l_bk, l_rt, l_ex, k_add, k_sub, k_mul, k_div, k_mod, k_pow, k_neg, k_cmp, k_eqi, k_nei, k_divmod, k_gcd, k_abs, i_tup, i_lst, i_ro, lo_lst, st_lst, st_ro, st_tup, o_some, o_none, o_map, o_ite, c_true, b_true, b_false, f_nx, f_rt, f_bk, f_ct, f_ex, boolD_bl, intD_int, two_two, w_ok, bx_turn, bx_cells, bx_put, bx_lenc, bx_ix, bx_sub, List.getElem?_cons_zero, List.getElem?_cons_succ, List.getElem?_nil, List.set_cons_zero, List.set_cons_succ, List.map_cons, List.map_nil, List.replicate_succ, List.replicate_zero, List.cons_append, List.nil_append, List.length_cons, List.length_nil, szl, isa_int_non, isa_int_bl, isa_int_int, isa_int_str, isa_int_tup, isa_int_lst, isa_int_ro, isa_bool_non, isa_bool_bl, isa_bool_int, isa_bool_str, isa_bool_tup, isa_bool_lst, isa_bool_ro, isa_tuple_non, isa_tuple_bl, isa_tuple_int, isa_tuple_str, isa_tuple_tup, isa_tuple_lst, isa_tuple_ro, isa_list_non, isa_list_bl, isa_list_int, isa_list_str, isa_list_tup, isa_list_lst, isa_list_ro, isa_str_non, isa_str_bl, isa_str_int, isa_str_str, isa_str_tup, isa_str_lst, isa_str_ro, isl_non, isl_bl, isl_int, isl_str, isl_tup, isl_lst, isl_ro, Nat.zero_add, Nat.reduceAdd, Nat.reduceSub, Nat.reduceLeDiff, Nat.reduceLT, Nat.reducePow, Int.reduceNeg, decide_true, decide_false, Bool.not_true, Bool.not_false, Int.reduceToNat, Int.reducePow, Int.reduceAdd, Int.reduceSub, Int.reduceMul, nco, eq_self, Int.reduceEq, Int.reduceLT, Int.reduceLE, w_run1, w_run2, w_run3, fl_tup, fl_lst, ix_tup0, ix_tup1, Bool.false_eq_true, reduceCtorEq, ↓w_comp0, ↓w_comp1, wipe0, wipe1, fall_lst, bools0, bools1, Option.map_some, List.all_cons, List.all_nil, id, Bool.and_true, Bool.and_false, Bool.true_and, Bool.false_and, ↓t_rt, ↓t_nx, t_rt, t_nx, kz_int, kz_div, kz_isn0, kz_isn1, kz_isn2, kz_isn3, w_raise0, kz_isl1, kz_isl2, kz_isl3, kz_isb1, fr_t, fr_l, gfl_lst])
  refine wp_times (k := true) hc hd ha hb hd0 hb0 ?_
  rw [eM2]
  (try simp only [↓w_ok, ↓w_exc, ↓w_bad, ↓w_bnd, ↓w_ret, ↓w_badm, ↓w_lift, ↓o_some, ↓o_none, ↓o_map, ↓o_ite, ↓c_true, ↓b_true, ↓b_false, ↓f_nx, ↓f_rt, ↓f_bk, ↓f_ct, ↓f_ex, ↓w_var, ↓w_c, ↓w_c2, ↓w_c1, ↓w_cN, ↓w_nil, ↓w_cons, ↓w_tup, ↓w_lst, ↓w_frz, ↓w_own, ↓w_call, ↓w_no, ↓w_part, ↓w_sl, ↓w_tB, ↓w_tAnd, ↓w_tOr, ↓w_tNot, ↓w_tYes, ↓w_vAnd, ↓w_vOr, ↓w_vNot, ↓w_if, ↓w_pNil, ↓w_pCons, ↓w_dict, ↓w_lc, ↓w_iSeq, ↓w_iRng, ↓w_next, ↓w_seq, ↓w_do, ↓w_sret, ↓w_sretN, ↓w_drop, ↓w_sif, ↓w_brk, ↓w_cnt, ↓w_asg, ↓w_nm, ↓w_gnil, ↓w_gcons, ↓w_gseq, ↓w_gsub, ↓w_par, ↓w_for, ↓w_dput, ↓w_app, ↓l_nx, ↓l_ct, ↓l_bk, ↓l_rt, ↓l_ex, ↓w_loop0, ↓w_run1, ↓w_run2, ↓w_run3, ↓e_rt, ↓e_nx, ↓e_ex, e_rt, e_nx, e_ex, l_nx, l_ct, l_bk, l_rt, l_ex, k_add, k_sub, k_mul, k_div, k_mod, k_pow, k_neg, k_cmp, k_eqi, k_nei, k_divmod, k_gcd, k_abs, i_tup, i_lst, i_ro, lo_lst, st_lst, st_ro, st_tup, o_some, o_none, o_map, o_ite, c_true, b_true, b_false, f_nx, f_rt, f_bk, f_ct, f_ex, boolD_bl, intD_int, two_two, w_ok, bx_turn, bx_cells, bx_put, bx_lenc, bx_ix, bx_sub, List.getElem?_cons_zero, List.getElem?_cons_succ, List.getElem?_nil, List.set_cons_zero, List.set_cons_succ, List.map_cons, List.map_nil, List.replicate_succ, List.replicate_zero, List.cons_append, List.nil_append, List.length_cons, List.length_nil, szl, isa_int_non, isa_int_bl, isa_int_int, isa_int_str, isa_int_tup, isa_int_lst, isa_int_ro, isa_bool_non, isa_bool_bl, isa_bool_int, isa_bool_str, isa_bool_tup, isa_bool_lst, isa_bool_ro, isa_tuple_non, isa_tuple_bl, isa_tuple_int, isa_tuple_str, isa_tuple_tup, isa_tuple_lst, isa_tuple_ro, isa_list_non, isa_list_bl, isa_list_int, isa_list_str, isa_list_tup, isa_list_lst, isa_list_ro, isa_str_non, isa_str_bl, isa_str_int, isa_str_str, isa_str_tup, isa_str_lst, isa_str_ro, isl_non, isl_bl, isl_int, isl_str, isl_tup, isl_lst, isl_ro, Nat.zero_add, Nat.reduceAdd, Nat.reduceSub, Nat.reduceLeDiff, Nat.reduceLT, Nat.reducePow, Int.reduceNeg, decide_true, decide_false, Bool.not_true, Bool.not_false, Int.reduceToNat, Int.reducePow, Int.reduceAdd, Int.reduceSub, Int.reduceMul, nco, eq_self, Int.reduceEq, Int.reduceLT, Int.reduceLE, w_run1, w_run2, w_run3, fl_tup, fl_lst, ix_tup0, ix_tup1, Bool.false_eq_true, reduceCtorEq, ↓w_comp0, ↓w_comp1, wipe0, wipe1, fall_lst, bools0, bools1, Option.map_some, List.all_cons, List.all_nil, id, Bool.and_true, Bool.and_false, Bool.true_and, Bool.false_and, ↓t_rt, ↓t_nx, t_rt, t_nx, kz_int, kz_div, kz_isn0, kz_isn1, kz_isn2, kz_isn3, w_raise0, kz_isl1, kz_isl2, kz_isl3, kz_isb1, fr_t, fr_l, gfl_lst, ixl0, ixl1, ixl2])
  refine same_ (.list [.list [.tuple [.int xs, .int ys], .tuple [.int xg, .int yg], .tuple [.int xm, .int ym], .int (sgn a), .int (sgn xg)], .list [.tuple [.int xs, .int ys], .tuple [.int xg, .int yg], .tuple [.int xm, .int ym], .int (sgn a), .int (sgn xg)], .list [.tuple [.int xs, .int ys], .tuple [.int xm, .int ym]]]) ?_ ?_ (by simp [sm]) ?_
  · simp only [ofP, ofPs]
  · simp only [ofP, ofPs]
    simp only [sg_int]
  have m1 : CMulW a d = True := eq_true (cm_of (nat_lt a ha) (nat_lt d hd))
  have m2 : CMulW b c = True := eq_true (cm_of (nat_lt b hb) (nat_lt c hc))
  (try simp only [↓w_ok, ↓w_exc, ↓w_bad, ↓w_bnd, ↓w_ret, ↓w_badm, ↓w_lift, ↓o_some, ↓o_none, ↓o_map, ↓o_ite, ↓c_true, ↓b_true, ↓b_false, ↓f_nx, ↓f_rt, ↓f_bk, ↓f_ct, ↓f_ex, ↓w_var, ↓w_c, ↓w_c2, ↓w_c1, ↓w_cN, ↓w_nil, ↓w_cons, ↓w_tup, ↓w_lst, ↓w_frz, ↓w_own, ↓w_call, ↓w_no, ↓w_part, ↓w_sl, ↓w_tB, ↓w_tAnd, ↓w_tOr, ↓w_tNot, ↓w_tYes, ↓w_vAnd, ↓w_vOr, ↓w_vNot, ↓w_if, ↓w_pNil, ↓w_pCons, ↓w_dict, ↓w_lc, ↓w_iSeq, ↓w_iRng, ↓w_next, ↓w_seq, ↓w_do, ↓w_sret, ↓w_sretN, ↓w_drop, ↓w_sif, ↓w_brk, ↓w_cnt, ↓w_asg, ↓w_nm, ↓w_gnil, ↓w_gcons, ↓w_gseq, ↓w_gsub, ↓w_par, ↓w_for, ↓w_dput, ↓w_app, ↓l_nx, ↓l_ct, ↓l_bk, ↓l_rt, ↓l_ex, ↓w_loop0, ↓w_run1, ↓w_run2, ↓w_run3, ↓e_rt, ↓e_nx, ↓e_ex, e_rt, e_nx, e_ex, l_nx, l_ct, l_bk, l_rt, l_ex, k_add, k_sub, k_mul, k_div, k_mod, k_pow, k_neg, k_cmp, k_eqi, k_nei, k_divmod, k_gcd, k_abs, i_tup, i_lst, i_ro, lo_lst, st_lst, st_ro, st_tup, o_some, o_none, o_map, o_ite, c_true, b_true, b_false, f_nx, f_rt, f_bk, f_ct, f_ex, boolD_bl, intD_int, two_two, w_ok, bx_turn, bx_cells, bx_put, bx_lenc, bx_ix, bx_sub, List.getElem?_cons_zero, List.getElem?_cons_succ, List.getElem?_nil, List.set_cons_zero, List.set_cons_succ, List.map_cons, List.map_nil, List.replicate_succ, List.replicate_zero, List.cons_append, List.nil_append, List.length_cons, List.length_nil, szl, isa_int_non, isa_int_bl, isa_int_int, isa_int_str, isa_int_tup, isa_int_lst, isa_int_ro, isa_bool_non, isa_bool_bl, isa_bool_int, isa_bool_str, isa_bool_tup, isa_bool_lst, isa_bool_ro, isa_tuple_non, isa_tuple_bl, isa_tuple_int, isa_tuple_str, isa_tuple_tup, isa_tuple_lst, isa_tuple_ro, isa_list_non, isa_list_bl, isa_list_int, isa_list_str, isa_list_tup, isa_list_lst, isa_list_ro, isa_str_non, isa_str_bl, isa_str_int, isa_str_str, isa_str_tup, isa_str_lst, isa_str_ro, isl_non, isl_bl, isl_int, isl_str, isl_tup, isl_lst, isl_ro, Nat.zero_add, Nat.reduceAdd, Nat.reduceSub, Nat.reduceLeDiff, Nat.reduceLT, Nat.reducePow, Int.reduceNeg, decide_true, decide_false, Bool.not_true, Bool.not_false, Int.reduceToNat, Int.reducePow, Int.reduceAdd, Int.reduceSub, Int.reduceMul, nco, eq_self, Int.reduceEq, Int.reduceLT, Int.reduceLE, w_run1, w_run2, w_run3, fl_tup, fl_lst, ix_tup0, ix_tup1, Bool.false_eq_true, reduceCtorEq, ↓w_comp0, ↓w_comp1, wipe0, wipe1, fall_lst, bools0, bools1, Option.map_some, List.all_cons, List.all_nil, id, Bool.and_true, Bool.and_false, Bool.true_and, Bool.false_and, ↓t_rt, ↓t_nx, t_rt, t_nx, kz_int, kz_div, kz_isn0, kz_isn1, kz_isn2, kz_isn3, w_raise0, kz_isl1, kz_isl2, kz_isl3, kz_isb1, fr_t, fr_l, gfl_lst, ixl0, ixl1, ixl2])
  refine wb_i (fun h0 => ?_) (fun h0 => ?_)
  · have h0 := of_decide_eq_true h0
    subst h0
    (try simp only [↓w_ok, ↓w_exc, ↓w_bad, ↓w_bnd, ↓w_ret, ↓w_badm, ↓w_lift, ↓o_some, ↓o_none, ↓o_map, ↓o_ite, ↓c_true, ↓b_true, ↓b_false, ↓f_nx, ↓f_rt, ↓f_bk, ↓f_ct, ↓f_ex, ↓w_var, ↓w_c, ↓w_c2, ↓w_c1, ↓w_cN, ↓w_nil, ↓w_cons, ↓w_tup, ↓w_lst, ↓w_frz, ↓w_own, ↓w_call, ↓w_no, ↓w_part, ↓w_sl, ↓w_tB, ↓w_tAnd, ↓w_tOr, ↓w_tNot, ↓w_tYes, ↓w_vAnd, ↓w_vOr, ↓w_vNot, ↓w_if, ↓w_pNil, ↓w_pCons, ↓w_dict, ↓w_lc, ↓w_iSeq, ↓w_iRng, ↓w_next, ↓w_seq, ↓w_do, ↓w_sret, ↓w_sretN, ↓w_drop, ↓w_sif, ↓w_brk, ↓w_cnt, ↓w_asg, ↓w_nm, ↓w_gnil, ↓w_gcons, ↓w_gseq, ↓w_gsub, ↓w_par, ↓w_for, ↓w_dput, ↓w_app, ↓l_nx, ↓l_ct, ↓l_bk, ↓l_rt, ↓l_ex, ↓w_loop0, ↓w_run1, ↓w_run2, ↓w_run3, ↓e_rt, ↓e_nx, ↓e_ex, e_rt, e_nx, e_ex, l_nx, l_ct, l_bk, l_rt, l_ex, k_add, k_sub, k_mul, k_div, k_mod, k_pow, k_neg, k_cmp, k_eqi, k_nei, k_divmod, k_gcd, k_abs, i_tup, i_lst, i_ro, lo_lst, st_lst, st_ro, st_tup, o_some, o_none, o_map, o_ite, c_true, b_true, b_false, f_nx, f_rt, f_bk, f_ct, f_ex, boolD_bl, intD_int, two_two, w_ok, bx_turn, bx_cells, bx_put, bx_lenc, bx_ix, bx_sub, List.getElem?_cons_zero, List.getElem?_cons_succ, List.getElem?_nil, List.set_cons_zero, List.set_cons_succ, List.map_cons, List.map_nil, List.replicate_succ, List.replicate_zero, List.cons_append, List.nil_append, List.length_cons, List.length_nil, szl, isa_int_non, isa_int_bl, isa_int_int, isa_int_str, isa_int_tup, isa_int_lst, isa_int_ro, isa_bool_non, isa_bool_bl, isa_bool_int, isa_bool_str, isa_bool_tup, isa_bool_lst, isa_bool_ro, isa_tuple_non, isa_tuple_bl, isa_tuple_int, isa_tuple_str, isa_tuple_tup, isa_tuple_lst, isa_tuple_ro, isa_list_non, isa_list_bl, isa_list_int, isa_list_str, isa_list_tup, isa_list_lst, isa_list_ro, isa_str_non, isa_str_bl, isa_str_int, isa_str_str, isa_str_tup, isa_str_lst, isa_str_ro, isl_non, isl_bl, isl_int, isl_str, isl_tup, isl_lst, isl_ro, Nat.zero_add, Nat.reduceAdd, Nat.reduceSub, Nat.reduceLeDiff, Nat.reduceLT, Nat.reducePow, Int.reduceNeg, decide_true, decide_false, Bool.not_true, Bool.not_false, Int.reduceToNat, Int.reducePow, Int.reduceAdd, Int.reduceSub, Int.reduceMul, nco, eq_self, Int.reduceEq, Int.reduceLT, Int.reduceLE, w_run1, w_run2, w_run3, fl_tup, fl_lst, ix_tup0, ix_tup1, Bool.false_eq_true, reduceCtorEq, ↓w_comp0, ↓w_comp1, wipe0, wipe1, fall_lst, bools0, bools1, Option.map_some, List.all_cons, List.all_nil, id, Bool.and_true, Bool.and_false, Bool.true_and, Bool.false_and, ↓t_rt, ↓t_nx, t_rt, t_nx, kz_int, kz_div, kz_isn0, kz_isn1, kz_isn2, kz_isn3, w_raise0, kz_isl1, kz_isl2, kz_isl3, kz_isb1, fr_t, fr_l, gfl_lst, ixl0, ixl1, ixl2])
    refine wp_ref0 (k := true) ha hb hd ?_
    (try simp only [↓w_ok, ↓w_exc, ↓w_bad, ↓w_bnd, ↓w_ret, ↓w_badm, ↓w_lift, ↓o_some, ↓o_none, ↓o_map, ↓o_ite, ↓c_true, ↓b_true, ↓b_false, ↓f_nx, ↓f_rt, ↓f_bk, ↓f_ct, ↓f_ex, ↓w_var, ↓w_c, ↓w_c2, ↓w_c1, ↓w_cN, ↓w_nil, ↓w_cons, ↓w_tup, ↓w_lst, ↓w_frz, ↓w_own, ↓w_call, ↓w_no, ↓w_part, ↓w_sl, ↓w_tB, ↓w_tAnd, ↓w_tOr, ↓w_tNot, ↓w_tYes, ↓w_vAnd, ↓w_vOr, ↓w_vNot, ↓w_if, ↓w_pNil, ↓w_pCons, ↓w_dict, ↓w_lc, ↓w_iSeq, ↓w_iRng, ↓w_next, ↓w_seq, ↓w_do, ↓w_sret, ↓w_sretN, ↓w_drop, ↓w_sif, ↓w_brk, ↓w_cnt, ↓w_asg, ↓w_nm, ↓w_gnil, ↓w_gcons, ↓w_gseq, ↓w_gsub, ↓w_par, ↓w_for, ↓w_dput, ↓w_app, ↓l_nx, ↓l_ct, ↓l_bk, ↓l_rt, ↓l_ex, ↓w_loop0, ↓w_run1, ↓w_run2, ↓w_run3, ↓e_rt, ↓e_nx, ↓e_ex, e_rt, e_nx, e_ex, l_nx, l_ct, l_bk, l_rt, l_ex, k_add, k_sub, k_mul, k_div, k_mod, k_pow, k_neg, k_cmp, k_eqi, k_nei, k_divmod, k_gcd, k_abs, i_tup, i_lst, i_ro, lo_lst, st_lst, st_ro, st_tup, o_some, o_none, o_map, o_ite, c_true, b_true, b_false, f_nx, f_rt, f_bk, f_ct, f_ex, boolD_bl, intD_int, two_two, w_ok, bx_turn, bx_cells, bx_put, bx_lenc, bx_ix, bx_sub, List.getElem?_cons_zero, List.getElem?_cons_succ, List.getElem?_nil, List.set_cons_zero, List.set_cons_succ, List.map_cons, List.map_nil, List.replicate_succ, List.replicate_zero, List.cons_append, List.nil_append, List.length_cons, List.length_nil, szl, isa_int_non, isa_int_bl, isa_int_int, isa_int_str, isa_int_tup, isa_int_lst, isa_int_ro, isa_bool_non, isa_bool_bl, isa_bool_int, isa_bool_str, isa_bool_tup, isa_bool_lst, isa_bool_ro, isa_tuple_non, isa_tuple_bl, isa_tuple_int, isa_tuple_str, isa_tuple_tup, isa_tuple_lst, isa_tuple_ro, isa_list_non, isa_list_bl, isa_list_int, isa_list_str, isa_list_tup, isa_list_lst, isa_list_ro, isa_str_non, isa_str_bl, isa_str_int, isa_str_str, isa_str_tup, isa_str_lst, isa_str_ro, isl_non, isl_bl, isl_int, isl_str, isl_tup, isl_lst, isl_ro, Nat.zero_add, Nat.reduceAdd, Nat.reduceSub, Nat.reduceLeDiff, Nat.reduceLT, Nat.reducePow, Int.reduceNeg, decide_true, decide_false, Bool.not_true, Bool.not_false, Int.reduceToNat, Int.reducePow, Int.reduceAdd, Int.reduceSub, Int.reduceMul, nco, eq_self, Int.reduceEq, Int.reduceLT, Int.reduceLE, w_run1, w_run2, w_run3, fl_tup, fl_lst, ix_tup0, ix_tup1, Bool.false_eq_true, reduceCtorEq, ↓w_comp0, ↓w_comp1, wipe0, wipe1, fall_lst, bools0, bools1, Option.map_some, List.all_cons, List.all_nil, id, Bool.and_true, Bool.and_false, Bool.true_and, Bool.false_and, ↓t_rt, ↓t_nx, t_rt, t_nx, kz_int, kz_div, kz_isn0, kz_isn1, kz_isn2, kz_isn3, w_raise0, kz_isl1, kz_isl2, kz_isl3, kz_isb1, fr_t, fr_l, gfl_lst, ixl0, ixl1, ixl2])
    refine wp_ref0 (k := false) ha hb hd ?_
    (try simp only [↓w_ok, ↓w_exc, ↓w_bad, ↓w_bnd, ↓w_ret, ↓w_badm, ↓w_lift, ↓o_some, ↓o_none, ↓o_map, ↓o_ite, ↓c_true, ↓b_true, ↓b_false, ↓f_nx, ↓f_rt, ↓f_bk, ↓f_ct, ↓f_ex, ↓w_var, ↓w_c, ↓w_c2, ↓w_c1, ↓w_cN, ↓w_nil, ↓w_cons, ↓w_tup, ↓w_lst, ↓w_frz, ↓w_own, ↓w_call, ↓w_no, ↓w_part, ↓w_sl, ↓w_tB, ↓w_tAnd, ↓w_tOr, ↓w_tNot, ↓w_tYes, ↓w_vAnd, ↓w_vOr, ↓w_vNot, ↓w_if, ↓w_pNil, ↓w_pCons, ↓w_dict, ↓w_lc, ↓w_iSeq, ↓w_iRng, ↓w_next, ↓w_seq, ↓w_do, ↓w_sret, ↓w_sretN, ↓w_drop, ↓w_sif, ↓w_brk, ↓w_cnt, ↓w_asg, ↓w_nm, ↓w_gnil, ↓w_gcons, ↓w_gseq, ↓w_gsub, ↓w_par, ↓w_for, ↓w_dput, ↓w_app, ↓l_nx, ↓l_ct, ↓l_bk, ↓l_rt, ↓l_ex, ↓w_loop0, ↓w_run1, ↓w_run2, ↓w_run3, ↓e_rt, ↓e_nx, ↓e_ex, e_rt, e_nx, e_ex, l_nx, l_ct, l_bk, l_rt, l_ex, k_add, k_sub, k_mul, k_div, k_mod, k_pow, k_neg, k_cmp, k_eqi, k_nei, k_divmod, k_gcd, k_abs, i_tup, i_lst, i_ro, lo_lst, st_lst, st_ro, st_tup, o_some, o_none, o_map, o_ite, c_true, b_true, b_false, f_nx, f_rt, f_bk, f_ct, f_ex, boolD_bl, intD_int, two_two, w_ok, bx_turn, bx_cells, bx_put, bx_lenc, bx_ix, bx_sub, List.getElem?_cons_zero, List.getElem?_cons_succ, List.getElem?_nil, List.set_cons_zero, List.set_cons_succ, List.map_cons, List.map_nil, List.replicate_succ, List.replicate_zero, List.cons_append, List.nil_append, List.length_cons, List.length_nil, szl, isa_int_non, isa_int_bl, isa_int_int, isa_int_str, isa_int_tup, isa_int_lst, isa_int_ro, isa_bool_non, isa_bool_bl, isa_bool_int, isa_bool_str, isa_bool_tup, isa_bool_lst, isa_bool_ro, isa_tuple_non, isa_tuple_bl, isa_tuple_int, isa_tuple_str, isa_tuple_tup, isa_tuple_lst, isa_tuple_ro, isa_list_non, isa_list_bl, isa_list_int, isa_list_str, isa_list_tup, isa_list_lst, isa_list_ro, isa_str_non, isa_str_bl, isa_str_int, isa_str_str, isa_str_tup, isa_str_lst, isa_str_ro, isl_non, isl_bl, isl_int, isl_str, isl_tup, isl_lst, isl_ro, Nat.zero_add, Nat.reduceAdd, Nat.reduceSub, Nat.reduceLeDiff, Nat.reduceLT, Nat.reducePow, Int.reduceNeg, decide_true, decide_false, Bool.not_true, Bool.not_false, Int.reduceToNat, Int.reducePow, Int.reduceAdd, Int.reduceSub, Int.reduceMul, nco, eq_self, Int.reduceEq, Int.reduceLT, Int.reduceLE, w_run1, w_run2, w_run3, fl_tup, fl_lst, ix_tup0, ix_tup1, Bool.false_eq_true, reduceCtorEq, ↓w_comp0, ↓w_comp1, wipe0, wipe1, fall_lst, bools0, bools1, Option.map_some, List.all_cons, List.all_nil, id, Bool.and_true, Bool.and_false, Bool.true_and, Bool.false_and, ↓t_rt, ↓t_nx, t_rt, t_nx, kz_int, kz_div, kz_isn0, kz_isn1, kz_isn2, kz_isn3, w_raise0, kz_isl1, kz_isl2, kz_isl3, kz_isb1, fr_t, fr_l, gfl_lst])
    exact q
  · have h0 := of_decide_eq_false h0
    (try simp only [↓w_ok, ↓w_exc, ↓w_bad, ↓w_bnd, ↓w_ret, ↓w_badm, ↓w_lift, ↓o_some, ↓o_none, ↓o_map, ↓o_ite, ↓c_true, ↓b_true, ↓b_false, ↓f_nx, ↓f_rt, ↓f_bk, ↓f_ct, ↓f_ex, ↓w_var, ↓w_c, ↓w_c2, ↓w_c1, ↓w_cN, ↓w_nil, ↓w_cons, ↓w_tup, ↓w_lst, ↓w_frz, ↓w_own, ↓w_call, ↓w_no, ↓w_part, ↓w_sl, ↓w_tB, ↓w_tAnd, ↓w_tOr, ↓w_tNot, ↓w_tYes, ↓w_vAnd, ↓w_vOr, ↓w_vNot, ↓w_if, ↓w_pNil, ↓w_pCons, ↓w_dict, ↓w_lc, ↓w_iSeq, ↓w_iRng, ↓w_next, ↓w_seq, ↓w_do, ↓w_sret, ↓w_sretN, ↓w_drop, ↓w_sif, ↓w_brk, ↓w_cnt, ↓w_asg, ↓w_nm, ↓w_gnil, ↓w_gcons, ↓w_gseq, ↓w_gsub, ↓w_par, ↓w_for, ↓w_dput, ↓w_app, ↓l_nx, ↓l_ct, ↓l_bk, ↓l_rt, ↓l_ex, ↓w_loop0, ↓w_run1, ↓w_run2, ↓w_run3, ↓e_rt, ↓e_nx, ↓e_ex, e_rt, e_nx, e_ex, l_nx, l_ct, l_bk, l_rt, l_ex, k_add, k_sub, k_mul, k_div, k_mod, k_pow, k_neg, k_cmp, k_eqi, k_nei, k_divmod, k_gcd, k_abs, i_tup, i_lst, i_ro, lo_lst, st_lst, st_ro, st_tup, o_some, o_none, o_map, o_ite, c_true, b_true, b_false, f_nx, f_rt, f_bk, f_ct, f_ex, boolD_bl, intD_int, two_two, w_ok, bx_turn, bx_cells, bx_put, bx_lenc, bx_ix, bx_sub, List.getElem?_cons_zero, List.getElem?_cons_succ, List.getElem?_nil, List.set_cons_zero, List.set_cons_succ, List.map_cons, List.map_nil, List.replicate_succ, List.replicate_zero, List.cons_append, List.nil_append, List.length_cons, List.length_nil, szl, isa_int_non, isa_int_bl, isa_int_int, isa_int_str, isa_int_tup, isa_int_lst, isa_int_ro, isa_bool_non, isa_bool_bl, isa_bool_int, isa_bool_str, isa_bool_tup, isa_bool_lst, isa_bool_ro, isa_tuple_non, isa_tuple_bl, isa_tuple_int, isa_tuple_str, isa_tuple_tup, isa_tuple_lst, isa_tuple_ro, isa_list_non, isa_list_bl, isa_list_int, isa_list_str, isa_list_tup, isa_list_lst, isa_list_ro, isa_str_non, isa_str_bl, isa_str_int, isa_str_str, isa_str_tup, isa_str_lst, isa_str_ro, isl_non, isl_bl, isl_int, isl_str, isl_tup, isl_lst, isl_ro, Nat.zero_add, Nat.reduceAdd, Nat.reduceSub, Nat.reduceLeDiff, Nat.reduceLT, Nat.reducePow, Int.reduceNeg, decide_true, decide_false, Bool.not_true, Bool.not_false, Int.reduceToNat, Int.reducePow, Int.reduceAdd, Int.reduceSub, Int.reduceMul, nco, eq_self, Int.reduceEq, Int.reduceLT, Int.reduceLE, w_run1, w_run2, w_run3, fl_tup, fl_lst, ix_tup0, ix_tup1, Bool.false_eq_true, reduceCtorEq, ↓w_comp0, ↓w_comp1, wipe0, wipe1, fall_lst, bools0, bools1, Option.map_some, List.all_cons, List.all_nil, id, Bool.and_true, Bool.and_false, Bool.true_and, Bool.false_and, ↓t_rt, ↓t_nx, t_rt, t_nx, kz_int, kz_div, kz_isn0, kz_isn1, kz_isn2, kz_isn3, w_raise0, kz_isl1, kz_isl2, kz_isl3, kz_isb1, fr_t, fr_l, gfl_lst, ixl0, ixl1, ixl2, m1, m2])
    refine wp_low (Int.mul_ne_zero hb0 h0) (nat_lt _ (mul_lt ha hd)) (nat_lt _ (mul_lt hb hc)) ?_
    rw [eQ]
    (try simp only [↓w_ok, ↓w_exc, ↓w_bad, ↓w_bnd, ↓w_ret, ↓w_badm, ↓w_lift, ↓o_some, ↓o_none, ↓o_map, ↓o_ite, ↓c_true, ↓b_true, ↓b_false, ↓f_nx, ↓f_rt, ↓f_bk, ↓f_ct, ↓f_ex, ↓w_var, ↓w_c, ↓w_c2, ↓w_c1, ↓w_cN, ↓w_nil, ↓w_cons, ↓w_tup, ↓w_lst, ↓w_frz, ↓w_own, ↓w_call, ↓w_no, ↓w_part, ↓w_sl, ↓w_tB, ↓w_tAnd, ↓w_tOr, ↓w_tNot, ↓w_tYes, ↓w_vAnd, ↓w_vOr, ↓w_vNot, ↓w_if, ↓w_pNil, ↓w_pCons, ↓w_dict, ↓w_lc, ↓w_iSeq, ↓w_iRng, ↓w_next, ↓w_seq, ↓w_do, ↓w_sret, ↓w_sretN, ↓w_drop, ↓w_sif, ↓w_brk, ↓w_cnt, ↓w_asg, ↓w_nm, ↓w_gnil, ↓w_gcons, ↓w_gseq, ↓w_gsub, ↓w_par, ↓w_for, ↓w_dput, ↓w_app, ↓l_nx, ↓l_ct, ↓l_bk, ↓l_rt, ↓l_ex, ↓w_loop0, ↓w_run1, ↓w_run2, ↓w_run3, ↓e_rt, ↓e_nx, ↓e_ex, e_rt, e_nx, e_ex, l_nx, l_ct, l_bk, l_rt, l_ex, k_add, k_sub, k_mul, k_div, k_mod, k_pow, k_neg, k_cmp, k_eqi, k_nei, k_divmod, k_gcd, k_abs, i_tup, i_lst, i_ro, lo_lst, st_lst, st_ro, st_tup, o_some, o_none, o_map, o_ite, c_true, b_true, b_false, f_nx, f_rt, f_bk, f_ct, f_ex, boolD_bl, intD_int, two_two, w_ok, bx_turn, bx_cells, bx_put, bx_lenc, bx_ix, bx_sub, List.getElem?_cons_zero, List.getElem?_cons_succ, List.getElem?_nil, List.set_cons_zero, List.set_cons_succ, List.map_cons, List.map_nil, List.replicate_succ, List.replicate_zero, List.cons_append, List.nil_append, List.length_cons, List.length_nil, szl, isa_int_non, isa_int_bl, isa_int_int, isa_int_str, isa_int_tup, isa_int_lst, isa_int_ro, isa_bool_non, isa_bool_bl, isa_bool_int, isa_bool_str, isa_bool_tup, isa_bool_lst, isa_bool_ro, isa_tuple_non, isa_tuple_bl, isa_tuple_int, isa_tuple_str, isa_tuple_tup, isa_tuple_lst, isa_tuple_ro, isa_list_non, isa_list_bl, isa_list_int, isa_list_str, isa_list_tup, isa_list_lst, isa_list_ro, isa_str_non, isa_str_bl, isa_str_int, isa_str_str, isa_str_tup, isa_str_lst, isa_str_ro, isl_non, isl_bl, isl_int, isl_str, isl_tup, isl_lst, isl_ro, Nat.zero_add, Nat.reduceAdd, Nat.reduceSub, Nat.reduceLeDiff, Nat.reduceLT, Nat.reducePow, Int.reduceNeg, decide_true, decide_false, Bool.not_true, Bool.not_false, Int.reduceToNat, Int.reducePow, Int.reduceAdd, Int.reduceSub, Int.reduceMul, nco, eq_self, Int.reduceEq, Int.reduceLT, Int.reduceLE, w_run1, w_run2, w_run3, fl_tup, fl_lst, ix_tup0, ix_tup1, Bool.false_eq_true, reduceCtorEq, ↓w_comp0, ↓w_comp1, wipe0, wipe1, fall_lst, bools0, bools1, Option.map_some, List.all_cons, List.all_nil, id, Bool.and_true, Bool.and_false, Bool.true_and, Bool.false_and, ↓t_rt, ↓t_nx, t_rt, t_nx, kz_int, kz_div, kz_isn0, kz_isn1, kz_isn2, kz_isn3, w_raise0, kz_isl1, kz_isl2, kz_isl3, kz_isb1, fr_t, fr_l, gfl_lst])
    refine wp_over (k := true) ha hb hc hd hb0 h0 ?_
    rw [eQ]
    (try simp only [↓w_ok, ↓w_exc, ↓w_bad, ↓w_bnd, ↓w_ret, ↓w_badm, ↓w_lift, ↓o_some, ↓o_none, ↓o_map, ↓o_ite, ↓c_true, ↓b_true, ↓b_false, ↓f_nx, ↓f_rt, ↓f_bk, ↓f_ct, ↓f_ex, ↓w_var, ↓w_c, ↓w_c2, ↓w_c1, ↓w_cN, ↓w_nil, ↓w_cons, ↓w_tup, ↓w_lst, ↓w_frz, ↓w_own, ↓w_call, ↓w_no, ↓w_part, ↓w_sl, ↓w_tB, ↓w_tAnd, ↓w_tOr, ↓w_tNot, ↓w_tYes, ↓w_vAnd, ↓w_vOr, ↓w_vNot, ↓w_if, ↓w_pNil, ↓w_pCons, ↓w_dict, ↓w_lc, ↓w_iSeq, ↓w_iRng, ↓w_next, ↓w_seq, ↓w_do, ↓w_sret, ↓w_sretN, ↓w_drop, ↓w_sif, ↓w_brk, ↓w_cnt, ↓w_asg, ↓w_nm, ↓w_gnil, ↓w_gcons, ↓w_gseq, ↓w_gsub, ↓w_par, ↓w_for, ↓w_dput, ↓w_app, ↓l_nx, ↓l_ct, ↓l_bk, ↓l_rt, ↓l_ex, ↓w_loop0, ↓w_run1, ↓w_run2, ↓w_run3, ↓e_rt, ↓e_nx, ↓e_ex, e_rt, e_nx, e_ex, l_nx, l_ct, l_bk, l_rt, l_ex, k_add, k_sub, k_mul, k_div, k_mod, k_pow, k_neg, k_cmp, k_eqi, k_nei, k_divmod, k_gcd, k_abs, i_tup, i_lst, i_ro, lo_lst, st_lst, st_ro, st_tup, o_some, o_none, o_map, o_ite, c_true, b_true, b_false, f_nx, f_rt, f_bk, f_ct, f_ex, boolD_bl, intD_int, two_two, w_ok, bx_turn, bx_cells, bx_put, bx_lenc, bx_ix, bx_sub, List.getElem?_cons_zero, List.getElem?_cons_succ, List.getElem?_nil, List.set_cons_zero, List.set_cons_succ, List.map_cons, List.map_nil, List.replicate_succ, List.replicate_zero, List.cons_append, List.nil_append, List.length_cons, List.length_nil, szl, isa_int_non, isa_int_bl, isa_int_int, isa_int_str, isa_int_tup, isa_int_lst, isa_int_ro, isa_bool_non, isa_bool_bl, isa_bool_int, isa_bool_str, isa_bool_tup, isa_bool_lst, isa_bool_ro, isa_tuple_non, isa_tuple_bl, isa_tuple_int, isa_tuple_str, isa_tuple_tup, isa_tuple_lst, isa_tuple_ro, isa_list_non, isa_list_bl, isa_list_int, isa_list_str, isa_list_tup, isa_list_lst, isa_list_ro, isa_str_non, isa_str_bl, isa_str_int, isa_str_str, isa_str_tup, isa_str_lst, isa_str_ro, isl_non, isl_bl, isl_int, isl_str, isl_tup, isl_lst, isl_ro, Nat.zero_add, Nat.reduceAdd, Nat.reduceSub, Nat.reduceLeDiff, Nat.reduceLT, Nat.reducePow, Int.reduceNeg, decide_true, decide_false, Bool.not_true, Bool.not_false, Int.reduceToNat, Int.reducePow, Int.reduceAdd, Int.reduceSub, Int.reduceMul, nco, eq_self, Int.reduceEq, Int.reduceLT, Int.reduceLE, w_run1, w_run2, w_run3, fl_tup, fl_lst, ix_tup0, ix_tup1, Bool.false_eq_true, reduceCtorEq, ↓w_comp0, ↓w_comp1, wipe0, wipe1, fall_lst, bools0, bools1, Option.map_some, List.all_cons, List.all_nil, id, Bool.and_true, Bool.and_false, Bool.true_and, Bool.false_and, ↓t_rt, ↓t_nx, t_rt, t_nx, kz_int, kz_div, kz_isn0, kz_isn1, kz_isn2, kz_isn3, w_raise0, kz_isl1, kz_isl2, kz_isl3, kz_isb1, fr_t, fr_l, gfl_lst, ixl0, ixl1, ixl2])
    refine wp_over (k := false) ha hb hc hd hb0 h0 ?_
    rw [eQ]
    (try simp only [↓w_ok, ↓w_exc, ↓w_bad, ↓w_bnd, ↓w_ret, ↓w_badm, ↓w_lift, ↓o_some, ↓o_none, ↓o_map, ↓o_ite, ↓c_true, ↓b_true, ↓b_false, ↓f_nx, ↓f_rt, ↓f_bk, ↓f_ct, ↓f_ex, ↓w_var, ↓w_c, ↓w_c2, ↓w_c1, ↓w_cN, ↓w_nil, ↓w_cons, ↓w_tup, ↓w_lst, ↓w_frz, ↓w_own, ↓w_call, ↓w_no, ↓w_part, ↓w_sl, ↓w_tB, ↓w_tAnd, ↓w_tOr, ↓w_tNot, ↓w_tYes, ↓w_vAnd, ↓w_vOr, ↓w_vNot, ↓w_if, ↓w_pNil, ↓w_pCons, ↓w_dict, ↓w_lc, ↓w_iSeq, ↓w_iRng, ↓w_next, ↓w_seq, ↓w_do, ↓w_sret, ↓w_sretN, ↓w_drop, ↓w_sif, ↓w_brk, ↓w_cnt, ↓w_asg, ↓w_nm, ↓w_gnil, ↓w_gcons, ↓w_gseq, ↓w_gsub, ↓w_par, ↓w_for, ↓w_dput, ↓w_app, ↓l_nx, ↓l_ct, ↓l_bk, ↓l_rt, ↓l_ex, ↓w_loop0, ↓w_run1, ↓w_run2, ↓w_run3, ↓e_rt, ↓e_nx, ↓e_ex, e_rt, e_nx, e_ex, l_nx, l_ct, l_bk, l_rt, l_ex, k_add, k_sub, k_mul, k_div, k_mod, k_pow, k_neg, k_cmp, k_eqi, k_nei, k_divmod, k_gcd, k_abs, i_tup, i_lst, i_ro, lo_lst, st_lst, st_ro, st_tup, o_some, o_none, o_map, o_ite, c_true, b_true, b_false, f_nx, f_rt, f_bk, f_ct, f_ex, boolD_bl, intD_int, two_two, w_ok, bx_turn, bx_cells, bx_put, bx_lenc, bx_ix, bx_sub, List.getElem?_cons_zero, List.getElem?_cons_succ, List.getElem?_nil, List.set_cons_zero, List.set_cons_succ, List.map_cons, List.map_nil, List.replicate_succ, List.replicate_zero, List.cons_append, List.nil_append, List.length_cons, List.length_nil, szl, isa_int_non, isa_int_bl, isa_int_int, isa_int_str, isa_int_tup, isa_int_lst, isa_int_ro, isa_bool_non, isa_bool_bl, isa_bool_int, isa_bool_str, isa_bool_tup, isa_bool_lst, isa_bool_ro, isa_tuple_non, isa_tuple_bl, isa_tuple_int, isa_tuple_str, isa_tuple_tup, isa_tuple_lst, isa_tuple_ro, isa_list_non, isa_list_bl, isa_list_int, isa_list_str, isa_list_tup, isa_list_lst, isa_list_ro, isa_str_non, isa_str_bl, isa_str_int, isa_str_str, isa_str_tup, isa_str_lst, isa_str_ro, isl_non, isl_bl, isl_int, isl_str, isl_tup, isl_lst, isl_ro, Nat.zero_add, Nat.reduceAdd, Nat.reduceSub, Nat.reduceLeDiff, Nat.reduceLT, Nat.reducePow, Int.reduceNeg, decide_true, decide_false, Bool.not_true, Bool.not_false, Int.reduceToNat, Int.reducePow, Int.reduceAdd, Int.reduceSub, Int.reduceMul, nco, eq_self, Int.reduceEq, Int.reduceLT, Int.reduceLE, w_run1, w_run2, w_run3, fl_tup, fl_lst, ix_tup0, ix_tup1, Bool.false_eq_true, reduceCtorEq, ↓w_comp0, ↓w_comp1, wipe0, wipe1, fall_lst, bools0, bools1, Option.map_some, List.all_cons, List.all_nil, id, Bool.and_true, Bool.and_false, Bool.true_and, Bool.false_and, ↓t_rt, ↓t_nx, t_rt, t_nx, kz_int, kz_div, kz_isn0, kz_isn1, kz_isn2, kz_isn3, w_raise0, kz_isl1, kz_isl2, kz_isl3, kz_isb1, fr_t, fr_l, gfl_lst, rep2])
    refine same_ (.list [.tuple [.int xq, .int yq], .tuple [.int xq, .int yq]]) (by simp only [ofP, ofPs]) (by simp only [ofP, ofPs]) (by simp [sm]) ?_
    (try simp only [↓w_ok, ↓w_exc, ↓w_bad, ↓w_bnd, ↓w_ret, ↓w_badm, ↓w_lift, ↓o_some, ↓o_none, ↓o_map, ↓o_ite, ↓c_true, ↓b_true, ↓b_false, ↓f_nx, ↓f_rt, ↓f_bk, ↓f_ct, ↓f_ex, ↓w_var, ↓w_c, ↓w_c2, ↓w_c1, ↓w_cN, ↓w_nil, ↓w_cons, ↓w_tup, ↓w_lst, ↓w_frz, ↓w_own, ↓w_call, ↓w_no, ↓w_part, ↓w_sl, ↓w_tB, ↓w_tAnd, ↓w_tOr, ↓w_tNot, ↓w_tYes, ↓w_vAnd, ↓w_vOr, ↓w_vNot, ↓w_if, ↓w_pNil, ↓w_pCons, ↓w_dict, ↓w_lc, ↓w_iSeq, ↓w_iRng, ↓w_next, ↓w_seq, ↓w_do, ↓w_sret, ↓w_sretN, ↓w_drop, ↓w_sif, ↓w_brk, ↓w_cnt, ↓w_asg, ↓w_nm, ↓w_gnil, ↓w_gcons, ↓w_gseq, ↓w_gsub, ↓w_par, ↓w_for, ↓w_dput, ↓w_app, ↓l_nx, ↓l_ct, ↓l_bk, ↓l_rt, ↓l_ex, ↓w_loop0, ↓w_run1, ↓w_run2, ↓w_run3, ↓e_rt, ↓e_nx, ↓e_ex, e_rt, e_nx, e_ex, l_nx, l_ct, l_bk, l_rt, l_ex, k_add, k_sub, k_mul, k_div, k_mod, k_pow, k_neg, k_cmp, k_eqi, k_nei, k_divmod, k_gcd, k_abs, i_tup, i_lst, i_ro, lo_lst, st_lst, st_ro, st_tup, o_some, o_none, o_map, o_ite, c_true, b_true, b_false, f_nx, f_rt, f_bk, f_ct, f_ex, boolD_bl, intD_int, two_two, w_ok, bx_turn, bx_cells, bx_put, bx_lenc, bx_ix, bx_sub, List.getElem?_cons_zero, List.getElem?_cons_succ, List.getElem?_nil, List.set_cons_zero, List.set_cons_succ, List.map_cons, List.map_nil, List.replicate_succ, List.replicate_zero, List.cons_append, List.nil_append, List.length_cons, List.length_nil, szl, isa_int_non, isa_int_bl, isa_int_int, isa_int_str, isa_int_tup, isa_int_lst, isa_int_ro, isa_bool_non, isa_bool_bl, isa_bool_int, isa_bool_str, isa_bool_tup, isa_bool_lst, isa_bool_ro, isa_tuple_non, isa_tuple_bl, isa_tuple_int, isa_tuple_str, isa_tuple_tup, isa_tuple_lst, isa_tuple_ro, isa_list_non, isa_list_bl, isa_list_int, isa_list_str, isa_list_tup, isa_list_lst, isa_list_ro, isa_str_non, isa_str_bl, isa_str_int, isa_str_str, isa_str_tup, isa_str_lst, isa_str_ro, isl_non, isl_bl, isl_int, isl_str, isl_tup, isl_lst, isl_ro, Nat.zero_add, Nat.reduceAdd, Nat.reduceSub, Nat.reduceLeDiff, Nat.reduceLT, Nat.reducePow, Int.reduceNeg, decide_true, decide_false, Bool.not_true, Bool.not_false, Int.reduceToNat, Int.reducePow, Int.reduceAdd, Int.reduceSub, Int.reduceMul, nco, eq_self, Int.reduceEq, Int.reduceLT, Int.reduceLE, w_run1, w_run2, w_run3, fl_tup, fl_lst, ix_tup0, ix_tup1, Bool.false_eq_true, reduceCtorEq, ↓w_comp0, ↓w_comp1, wipe0, wipe1, fall_lst, bools0, bools1, Option.map_some, List.all_cons, List.all_nil, id, Bool.and_true, Bool.and_false, Bool.true_and, Bool.false_and, ↓t_rt, ↓t_nx, t_rt, t_nx, kz_int, kz_div, kz_isn0, kz_isn1, kz_isn2, kz_isn3, w_raise0, kz_isl1, kz_isl2, kz_isl3, kz_isb1, fr_t, fr_l, gfl_lst, hr])
    have hs : ∀ s, dEq s (.str w) (.str w) = some (.bl true) := fun s => by
      have := deq_of (st := s) (p := .str w) (q := .str w) gw (by simp [PyData.depth]) gw (by simp [PyData.depth])
      simpa [ofP, PyData.eqv] using this
    (try simp only [↓w_ok, ↓w_exc, ↓w_bad, ↓w_bnd, ↓w_ret, ↓w_badm, ↓w_lift, ↓o_some, ↓o_none, ↓o_map, ↓o_ite, ↓c_true, ↓b_true, ↓b_false, ↓f_nx, ↓f_rt, ↓f_bk, ↓f_ct, ↓f_ex, ↓w_var, ↓w_c, ↓w_c2, ↓w_c1, ↓w_cN, ↓w_nil, ↓w_cons, ↓w_tup, ↓w_lst, ↓w_frz, ↓w_own, ↓w_call, ↓w_no, ↓w_part, ↓w_sl, ↓w_tB, ↓w_tAnd, ↓w_tOr, ↓w_tNot, ↓w_tYes, ↓w_vAnd, ↓w_vOr, ↓w_vNot, ↓w_if, ↓w_pNil, ↓w_pCons, ↓w_dict, ↓w_lc, ↓w_iSeq, ↓w_iRng, ↓w_next, ↓w_seq, ↓w_do, ↓w_sret, ↓w_sretN, ↓w_drop, ↓w_sif, ↓w_brk, ↓w_cnt, ↓w_asg, ↓w_nm, ↓w_gnil, ↓w_gcons, ↓w_gseq, ↓w_gsub, ↓w_par, ↓w_for, ↓w_dput, ↓w_app, ↓l_nx, ↓l_ct, ↓l_bk, ↓l_rt, ↓l_ex, ↓w_loop0, ↓w_run1, ↓w_run2, ↓w_run3, ↓e_rt, ↓e_nx, ↓e_ex, e_rt, e_nx, e_ex, l_nx, l_ct, l_bk, l_rt, l_ex, k_add, k_sub, k_mul, k_div, k_mod, k_pow, k_neg, k_cmp, k_eqi, k_nei, k_divmod, k_gcd, k_abs, i_tup, i_lst, i_ro, lo_lst, st_lst, st_ro, st_tup, o_some, o_none, o_map, o_ite, c_true, b_true, b_false, f_nx, f_rt, f_bk, f_ct, f_ex, boolD_bl, intD_int, two_two, w_ok, bx_turn, bx_cells, bx_put, bx_lenc, bx_ix, bx_sub, List.getElem?_cons_zero, List.getElem?_cons_succ, List.getElem?_nil, List.set_cons_zero, List.set_cons_succ, List.map_cons, List.map_nil, List.replicate_succ, List.replicate_zero, List.cons_append, List.nil_append, List.length_cons, List.length_nil, szl, isa_int_non, isa_int_bl, isa_int_int, isa_int_str, isa_int_tup, isa_int_lst, isa_int_ro, isa_bool_non, isa_bool_bl, isa_bool_int, isa_bool_str, isa_bool_tup, isa_bool_lst, isa_bool_ro, isa_tuple_non, isa_tuple_bl, isa_tuple_int, isa_tuple_str, isa_tuple_tup, isa_tuple_lst, isa_tuple_ro, isa_list_non, isa_list_bl, isa_list_int, isa_list_str, isa_list_tup, isa_list_lst, isa_list_ro, isa_str_non, isa_str_bl, isa_str_int, isa_str_str, isa_str_tup, isa_str_lst, isa_str_ro, isl_non, isl_bl, isl_int, isl_str, isl_tup, isl_lst, isl_ro, Nat.zero_add, Nat.reduceAdd, Nat.reduceSub, Nat.reduceLeDiff, Nat.reduceLT, Nat.reducePow, Int.reduceNeg, decide_true, decide_false, Bool.not_true, Bool.not_false, Int.reduceToNat, Int.reducePow, Int.reduceAdd, Int.reduceSub, Int.reduceMul, nco, eq_self, Int.reduceEq, Int.reduceLT, Int.reduceLE, w_run1, w_run2, w_run3, fl_tup, fl_lst, ix_tup0, ix_tup1, Bool.false_eq_true, reduceCtorEq, ↓w_comp0, ↓w_comp1, wipe0, wipe1, fall_lst, bools0, bools1, Option.map_some, List.all_cons, List.all_nil, id, Bool.and_true, Bool.and_false, Bool.true_and, Bool.false_and, ↓t_rt, ↓t_nx, t_rt, t_nx, kz_int, kz_div, kz_isn0, kz_isn1, kz_isn2, kz_isn3, w_raise0, kz_isl1, kz_isl2, kz_isl3, kz_isb1, fr_t, fr_l, gfl_lst, hs])
    exact q
end
end PV
end

section
namespace PV
open PySem L2
def Sm (n : Int) : Prop := n.natAbs ≤ 1000000000
theorem Sm.lt {n : Int} (h : Sm n) : n.natAbs < 2 ^ 100 := Nat.lt_of_le_of_lt h (by decide)
section
theorem low_sm {a b : Int} (hb : 0 < b) (ha : Sm a) (hb2 : Sm b) : ∃ x y : Int, lowD a b = .tup [.int x, .int y] ∧ y ≠ 0 ∧ Sm x ∧ Sm y := by
  have e : sg b = 1 := if_pos hb
  have hg : 0 < Nat.gcd a.natAbs b.natAbs := Nat.gcd_pos_of_pos_right _ (by omega)
  have d1 : ((Nat.gcd a.natAbs b.natAbs : Nat) : Int) ∣ a := Int.ofNat_dvd_left.mpr (Nat.gcd_dvd_left _ _)
  have d2 : ((Nat.gcd a.natAbs b.natAbs : Nat) : Int) ∣ b := Int.ofNat_dvd_left.mpr (Nat.gcd_dvd_right _ _)
  have n1 : (a / (Nat.gcd a.natAbs b.natAbs : Nat)).natAbs = a.natAbs / Nat.gcd a.natAbs b.natAbs := by
    rw [Int.natAbs_ediv_of_dvd d1]; rfl
  have n2 : (b / (Nat.gcd a.natAbs b.natAbs : Nat)).natAbs = b.natAbs / Nat.gcd a.natAbs b.natAbs := by
    rw [Int.natAbs_ediv_of_dvd d2]; rfl
  have hpos : b.natAbs / Nat.gcd a.natAbs b.natAbs ≥ 1 := (Nat.one_le_div_iff hg).mpr (Nat.le_of_dvd (by omega) (Nat.gcd_dvd_right _ _))
  refine ⟨a / (Nat.gcd a.natAbs b.natAbs : Nat), b / (Nat.gcd a.natAbs b.natAbs : Nat), ?_, ?_, ?_, ?_⟩
  · unfold lowD
    rw [e, Int.one_mul, Int.one_mul]
  · intro h
    rw [h] at n2
    simp only [Int.natAbs_zero] at n2
    omega
  · unfold Sm; rw [n1]; exact Nat.le_trans (Nat.div_le_self _ _) ha
  · unfold Sm; rw [n2]; exact Nat.le_trans (Nat.div_le_self _ _) hb2
variable {e : Bool} {cs : List Int} {t : Int} {r : Sto} {N : Nat} {P : D → Sto → Prop} {E : Exn → Sto → Prop} {u : Dep P E} {st : Sto}
theorem pick_lst {st : Sto} {g : Int} {xs : List D} (h0 : 0 ≤ g) (h1 : g < xs.length) : ∃ x, x ∈ xs ∧ dIx st (.lst xs) (.int g) = some x := by
  have hl : g.toNat < xs.length := by omega
  refine ⟨xs[g.toNat], List.getElem_mem hl, ?_⟩
  simp only [dIx, items, atI]
  rw [ix_mod h0 h1]
  simp [hl]
theorem wp_frac (h : BxOk cs t N) (hN : N ≤ 900000) (q : ∀ a b cs' t', b ≠ 0 → Sm a → Sm b → BxOk cs' t' (N + 3) → P (.tup [.int a, .int b]) (bx e cs' t' ++ r)) : wp P E u (Gk02.m_l_fraction [.ref (bB e)] (bx e cs t ++ r)) := by
  unfold Gk02.m_l_fraction
  have hp : CPow 10 6 = True := eq_true ⟨by decide, by decide, by decide⟩
  (try simp only [↓w_ok, ↓w_exc, ↓w_bad, ↓w_bnd, ↓w_ret, ↓w_badm, ↓w_lift, ↓o_some, ↓o_none, ↓o_map, ↓o_ite, ↓c_true, ↓b_true, ↓b_false, ↓f_nx, ↓f_rt, ↓f_bk, ↓f_ct, ↓f_ex, ↓w_var, ↓w_c, ↓w_c2, ↓w_c1, ↓w_cN, ↓w_nil, ↓w_cons, ↓w_tup, ↓w_lst, ↓w_frz, ↓w_own, ↓w_call, ↓w_no, ↓w_part, ↓w_sl, ↓w_tB, ↓w_tAnd, ↓w_tOr, ↓w_tNot, ↓w_tYes, ↓w_vAnd, ↓w_vOr, ↓w_vNot, ↓w_if, ↓w_pNil, ↓w_pCons, ↓w_dict, ↓w_lc, ↓w_iSeq, ↓w_iRng, ↓w_next, ↓w_seq, ↓w_do, ↓w_sret, ↓w_sretN, ↓w_drop, ↓w_sif, ↓w_brk, ↓w_cnt, ↓w_asg, ↓w_nm, ↓w_gnil, ↓w_gcons, ↓w_gseq, ↓w_gsub, ↓w_par, ↓w_for, ↓w_dput, ↓w_app, ↓l_nx, ↓l_ct, ↓l_bk, ↓l_rt, ↓l_ex, ↓w_loop0, ↓w_run1, ↓w_run2, ↓w_run3, ↓e_rt, ↓e_nx, ↓e_ex, e_rt, e_nx, e_ex, l_nx, l_ct, l_bk, l_rt, l_ex, k_add, k_sub, k_mul, k_div, k_mod, k_pow, k_neg, k_cmp, k_eqi, k_nei, k_divmod, k_gcd, k_abs, i_tup, i_lst, i_ro, lo_lst, st_lst, st_ro, st_tup, o_some, o_none, o_map, o_ite, c_true, b_true, b_false, f_nx, f_rt, f_bk, f_ct, f_ex, boolD_bl, intD_int, two_two, w_ok, bx_turn, bx_cells, bx_put, bx_lenc, bx_ix, bx_sub, List.getElem?_cons_zero, List.getElem?_cons_succ, List.getElem?_nil, List.set_cons_zero, List.set_cons_succ, List.map_cons, List.map_nil, List.replicate_succ, List.replicate_zero, List.cons_append, List.nil_append, List.length_cons, List.length_nil, szl, isa_int_non, isa_int_bl, isa_int_int, isa_int_str, isa_int_tup, isa_int_lst, isa_int_ro, isa_bool_non, isa_bool_bl, isa_bool_int, isa_bool_str, isa_bool_tup, isa_bool_lst, isa_bool_ro, isa_tuple_non, isa_tuple_bl, isa_tuple_int, isa_tuple_str, isa_tuple_tup, isa_tuple_lst, isa_tuple_ro, isa_list_non, isa_list_bl, isa_list_int, isa_list_str, isa_list_tup, isa_list_lst, isa_list_ro, isa_str_non, isa_str_bl, isa_str_int, isa_str_str, isa_str_tup, isa_str_lst, isa_str_ro, isl_non, isl_bl, isl_int, isl_str, isl_tup, isl_lst, isl_ro, Nat.zero_add, Nat.reduceAdd, Nat.reduceSub, Nat.reduceLeDiff, Nat.reduceLT, Nat.reducePow, Int.reduceNeg, decide_true, decide_false, Bool.not_true, Bool.not_false, Int.reduceToNat, Int.reducePow, Int.reduceAdd, Int.reduceSub, Int.reduceMul, nco, eq_self, Int.reduceEq, Int.reduceLT, Int.reduceLE, w_run1, w_run2, w_run3, fl_tup, fl_lst, ix_tup0, ix_tup1, Bool.false_eq_true, reduceCtorEq, ↓w_comp0, ↓w_comp1, wipe0, wipe1, fall_lst, bools0, bools1, Option.map_some, List.all_cons, List.all_nil, id, Bool.and_true, Bool.and_false, Bool.true_and, Bool.false_and, ↓t_rt, ↓t_nx, t_rt, t_nx, kz_int, kz_div, kz_isn0, kz_isn1, kz_isn2, kz_isn3, w_raise0, kz_isl1, kz_isl2, kz_isl3, kz_isb1, fr_t, fr_l, gfl_lst])
  refine take_ h (by omega) (by decide) (by decide) fun g1 a1 t1 h1 b0 b1 => ?_
  (try simp only [↓w_ok, ↓w_exc, ↓w_bad, ↓w_bnd, ↓w_ret, ↓w_badm, ↓w_lift, ↓o_some, ↓o_none, ↓o_map, ↓o_ite, ↓c_true, ↓b_true, ↓b_false, ↓f_nx, ↓f_rt, ↓f_bk, ↓f_ct, ↓f_ex, ↓w_var, ↓w_c, ↓w_c2, ↓w_c1, ↓w_cN, ↓w_nil, ↓w_cons, ↓w_tup, ↓w_lst, ↓w_frz, ↓w_own, ↓w_call, ↓w_no, ↓w_part, ↓w_sl, ↓w_tB, ↓w_tAnd, ↓w_tOr, ↓w_tNot, ↓w_tYes, ↓w_vAnd, ↓w_vOr, ↓w_vNot, ↓w_if, ↓w_pNil, ↓w_pCons, ↓w_dict, ↓w_lc, ↓w_iSeq, ↓w_iRng, ↓w_next, ↓w_seq, ↓w_do, ↓w_sret, ↓w_sretN, ↓w_drop, ↓w_sif, ↓w_brk, ↓w_cnt, ↓w_asg, ↓w_nm, ↓w_gnil, ↓w_gcons, ↓w_gseq, ↓w_gsub, ↓w_par, ↓w_for, ↓w_dput, ↓w_app, ↓l_nx, ↓l_ct, ↓l_bk, ↓l_rt, ↓l_ex, ↓w_loop0, ↓w_run1, ↓w_run2, ↓w_run3, ↓e_rt, ↓e_nx, ↓e_ex, e_rt, e_nx, e_ex, l_nx, l_ct, l_bk, l_rt, l_ex, k_add, k_sub, k_mul, k_div, k_mod, k_pow, k_neg, k_cmp, k_eqi, k_nei, k_divmod, k_gcd, k_abs, i_tup, i_lst, i_ro, lo_lst, st_lst, st_ro, st_tup, o_some, o_none, o_map, o_ite, c_true, b_true, b_false, f_nx, f_rt, f_bk, f_ct, f_ex, boolD_bl, intD_int, two_two, w_ok, bx_turn, bx_cells, bx_put, bx_lenc, bx_ix, bx_sub, List.getElem?_cons_zero, List.getElem?_cons_succ, List.getElem?_nil, List.set_cons_zero, List.set_cons_succ, List.map_cons, List.map_nil, List.replicate_succ, List.replicate_zero, List.cons_append, List.nil_append, List.length_cons, List.length_nil, szl, isa_int_non, isa_int_bl, isa_int_int, isa_int_str, isa_int_tup, isa_int_lst, isa_int_ro, isa_bool_non, isa_bool_bl, isa_bool_int, isa_bool_str, isa_bool_tup, isa_bool_lst, isa_bool_ro, isa_tuple_non, isa_tuple_bl, isa_tuple_int, isa_tuple_str, isa_tuple_tup, isa_tuple_lst, isa_tuple_ro, isa_list_non, isa_list_bl, isa_list_int, isa_list_str, isa_list_tup, isa_list_lst, isa_list_ro, isa_str_non, isa_str_bl, isa_str_int, isa_str_str, isa_str_tup, isa_str_lst, isa_str_ro, isl_non, isl_bl, isl_int, isl_str, isl_tup, isl_lst, isl_ro, Nat.zero_add, Nat.reduceAdd, Nat.reduceSub, Nat.reduceLeDiff, Nat.reduceLT, Nat.reducePow, Int.reduceNeg, decide_true, decide_false, Bool.not_true, Bool.not_false, Int.reduceToNat, Int.reducePow, Int.reduceAdd, Int.reduceSub, Int.reduceMul, nco, eq_self, Int.reduceEq, Int.reduceLT, Int.reduceLE, w_run1, w_run2, w_run3, fl_tup, fl_lst, ix_tup0, ix_tup1, Bool.false_eq_true, reduceCtorEq, ↓w_comp0, ↓w_comp1, wipe0, wipe1, fall_lst, bools0, bools1, Option.map_some, List.all_cons, List.all_nil, id, Bool.and_true, Bool.and_false, Bool.true_and, Bool.false_and, ↓t_rt, ↓t_nx, t_rt, t_nx, kz_int, kz_div, kz_isn0, kz_isn1, kz_isn2, kz_isn3, w_raise0, kz_isl1, kz_isl2, kz_isl3, kz_isb1, fr_t, fr_l, gfl_lst])
  refine wb_i (fun hb => ?_) (fun hb => ?_)
  · (try simp only [↓w_ok, ↓w_exc, ↓w_bad, ↓w_bnd, ↓w_ret, ↓w_badm, ↓w_lift, ↓o_some, ↓o_none, ↓o_map, ↓o_ite, ↓c_true, ↓b_true, ↓b_false, ↓f_nx, ↓f_rt, ↓f_bk, ↓f_ct, ↓f_ex, ↓w_var, ↓w_c, ↓w_c2, ↓w_c1, ↓w_cN, ↓w_nil, ↓w_cons, ↓w_tup, ↓w_lst, ↓w_frz, ↓w_own, ↓w_call, ↓w_no, ↓w_part, ↓w_sl, ↓w_tB, ↓w_tAnd, ↓w_tOr, ↓w_tNot, ↓w_tYes, ↓w_vAnd, ↓w_vOr, ↓w_vNot, ↓w_if, ↓w_pNil, ↓w_pCons, ↓w_dict, ↓w_lc, ↓w_iSeq, ↓w_iRng, ↓w_next, ↓w_seq, ↓w_do, ↓w_sret, ↓w_sretN, ↓w_drop, ↓w_sif, ↓w_brk, ↓w_cnt, ↓w_asg, ↓w_nm, ↓w_gnil, ↓w_gcons, ↓w_gseq, ↓w_gsub, ↓w_par, ↓w_for, ↓w_dput, ↓w_app, ↓l_nx, ↓l_ct, ↓l_bk, ↓l_rt, ↓l_ex, ↓w_loop0, ↓w_run1, ↓w_run2, ↓w_run3, ↓e_rt, ↓e_nx, ↓e_ex, e_rt, e_nx, e_ex, l_nx, l_ct, l_bk, l_rt, l_ex, k_add, k_sub, k_mul, k_div, k_mod, k_pow, k_neg, k_cmp, k_eqi, k_nei, k_divmod, k_gcd, k_abs, i_tup, i_lst, i_ro, lo_lst, st_lst, st_ro, st_tup, o_some, o_none, o_map, o_ite, c_true, b_true, b_false, f_nx, f_rt, f_bk, f_ct, f_ex, boolD_bl, intD_int, two_two, w_ok, bx_turn, bx_cells, bx_put, bx_lenc, bx_ix, bx_sub, List.getElem?_cons_zero, List.getElem?_cons_succ, List.getElem?_nil, List.set_cons_zero, List.set_cons_succ, List.map_cons, List.map_nil, List.replicate_succ, List.replicate_zero, List.cons_append, List.nil_append, List.length_cons, List.length_nil, szl, isa_int_non, isa_int_bl, isa_int_int, isa_int_str, isa_int_tup, isa_int_lst, isa_int_ro, isa_bool_non, isa_bool_bl, isa_bool_int, isa_bool_str, isa_bool_tup, isa_bool_lst, isa_bool_ro, isa_tuple_non, isa_tuple_bl, isa_tuple_int, isa_tuple_str, isa_tuple_tup, isa_tuple_lst, isa_tuple_ro, isa_list_non, isa_list_bl, isa_list_int, isa_list_str, isa_list_tup, isa_list_lst, isa_list_ro, isa_str_non, isa_str_bl, isa_str_int, isa_str_str, isa_str_tup, isa_str_lst, isa_str_ro, isl_non, isl_bl, isl_int, isl_str, isl_tup, isl_lst, isl_ro, Nat.zero_add, Nat.reduceAdd, Nat.reduceSub, Nat.reduceLeDiff, Nat.reduceLT, Nat.reducePow, Int.reduceNeg, decide_true, decide_false, Bool.not_true, Bool.not_false, Int.reduceToNat, Int.reducePow, Int.reduceAdd, Int.reduceSub, Int.reduceMul, nco, eq_self, Int.reduceEq, Int.reduceLT, Int.reduceLE, w_run1, w_run2, w_run3, fl_tup, fl_lst, ix_tup0, ix_tup1, Bool.false_eq_true, reduceCtorEq, ↓w_comp0, ↓w_comp1, wipe0, wipe1, fall_lst, bools0, bools1, Option.map_some, List.all_cons, List.all_nil, id, Bool.and_true, Bool.and_false, Bool.true_and, Bool.false_and, ↓t_rt, ↓t_nx, t_rt, t_nx, kz_int, kz_div, kz_isn0, kz_isn1, kz_isn2, kz_isn3, w_raise0, kz_isl1, kz_isl2, kz_isl3, kz_isb1, fr_t, fr_l, gfl_lst, hp])
    refine wc_i (cm_of (by decide) (by decide)) ?_
    (try simp only [↓w_ok, ↓w_exc, ↓w_bad, ↓w_bnd, ↓w_ret, ↓w_badm, ↓w_lift, ↓o_some, ↓o_none, ↓o_map, ↓o_ite, ↓c_true, ↓b_true, ↓b_false, ↓f_nx, ↓f_rt, ↓f_bk, ↓f_ct, ↓f_ex, ↓w_var, ↓w_c, ↓w_c2, ↓w_c1, ↓w_cN, ↓w_nil, ↓w_cons, ↓w_tup, ↓w_lst, ↓w_frz, ↓w_own, ↓w_call, ↓w_no, ↓w_part, ↓w_sl, ↓w_tB, ↓w_tAnd, ↓w_tOr, ↓w_tNot, ↓w_tYes, ↓w_vAnd, ↓w_vOr, ↓w_vNot, ↓w_if, ↓w_pNil, ↓w_pCons, ↓w_dict, ↓w_lc, ↓w_iSeq, ↓w_iRng, ↓w_next, ↓w_seq, ↓w_do, ↓w_sret, ↓w_sretN, ↓w_drop, ↓w_sif, ↓w_brk, ↓w_cnt, ↓w_asg, ↓w_nm, ↓w_gnil, ↓w_gcons, ↓w_gseq, ↓w_gsub, ↓w_par, ↓w_for, ↓w_dput, ↓w_app, ↓l_nx, ↓l_ct, ↓l_bk, ↓l_rt, ↓l_ex, ↓w_loop0, ↓w_run1, ↓w_run2, ↓w_run3, ↓e_rt, ↓e_nx, ↓e_ex, e_rt, e_nx, e_ex, l_nx, l_ct, l_bk, l_rt, l_ex, k_add, k_sub, k_mul, k_div, k_mod, k_pow, k_neg, k_cmp, k_eqi, k_nei, k_divmod, k_gcd, k_abs, i_tup, i_lst, i_ro, lo_lst, st_lst, st_ro, st_tup, o_some, o_none, o_map, o_ite, c_true, b_true, b_false, f_nx, f_rt, f_bk, f_ct, f_ex, boolD_bl, intD_int, two_two, w_ok, bx_turn, bx_cells, bx_put, bx_lenc, bx_ix, bx_sub, List.getElem?_cons_zero, List.getElem?_cons_succ, List.getElem?_nil, List.set_cons_zero, List.set_cons_succ, List.map_cons, List.map_nil, List.replicate_succ, List.replicate_zero, List.cons_append, List.nil_append, List.length_cons, List.length_nil, szl, isa_int_non, isa_int_bl, isa_int_int, isa_int_str, isa_int_tup, isa_int_lst, isa_int_ro, isa_bool_non, isa_bool_bl, isa_bool_int, isa_bool_str, isa_bool_tup, isa_bool_lst, isa_bool_ro, isa_tuple_non, isa_tuple_bl, isa_tuple_int, isa_tuple_str, isa_tuple_tup, isa_tuple_lst, isa_tuple_ro, isa_list_non, isa_list_bl, isa_list_int, isa_list_str, isa_list_tup, isa_list_lst, isa_list_ro, isa_str_non, isa_str_bl, isa_str_int, isa_str_str, isa_str_tup, isa_str_lst, isa_str_ro, isl_non, isl_bl, isl_int, isl_str, isl_tup, isl_lst, isl_ro, Nat.zero_add, Nat.reduceAdd, Nat.reduceSub, Nat.reduceLeDiff, Nat.reduceLT, Nat.reducePow, Int.reduceNeg, decide_true, decide_false, Bool.not_true, Bool.not_false, Int.reduceToNat, Int.reducePow, Int.reduceAdd, Int.reduceSub, Int.reduceMul, nco, eq_self, Int.reduceEq, Int.reduceLT, Int.reduceLE, w_run1, w_run2, w_run3, fl_tup, fl_lst, ix_tup0, ix_tup1, Bool.false_eq_true, reduceCtorEq, ↓w_comp0, ↓w_comp1, wipe0, wipe1, fall_lst, bools0, bools1, Option.map_some, List.all_cons, List.all_nil, id, Bool.and_true, Bool.and_false, Bool.true_and, Bool.false_and, ↓t_rt, ↓t_nx, t_rt, t_nx, kz_int, kz_div, kz_isn0, kz_isn1, kz_isn2, kz_isn3, w_raise0, kz_isl1, kz_isl2, kz_isl3, kz_isb1, fr_t, fr_l, gfl_lst, hp])
    refine take_ h1 (by omega) (by decide) (by decide) fun g2 a2 t2 h2 c0 c1 => ?_
    (try simp only [↓w_ok, ↓w_exc, ↓w_bad, ↓w_bnd, ↓w_ret, ↓w_badm, ↓w_lift, ↓o_some, ↓o_none, ↓o_map, ↓o_ite, ↓c_true, ↓b_true, ↓b_false, ↓f_nx, ↓f_rt, ↓f_bk, ↓f_ct, ↓f_ex, ↓w_var, ↓w_c, ↓w_c2, ↓w_c1, ↓w_cN, ↓w_nil, ↓w_cons, ↓w_tup, ↓w_lst, ↓w_frz, ↓w_own, ↓w_call, ↓w_no, ↓w_part, ↓w_sl, ↓w_tB, ↓w_tAnd, ↓w_tOr, ↓w_tNot, ↓w_tYes, ↓w_vAnd, ↓w_vOr, ↓w_vNot, ↓w_if, ↓w_pNil, ↓w_pCons, ↓w_dict, ↓w_lc, ↓w_iSeq, ↓w_iRng, ↓w_next, ↓w_seq, ↓w_do, ↓w_sret, ↓w_sretN, ↓w_drop, ↓w_sif, ↓w_brk, ↓w_cnt, ↓w_asg, ↓w_nm, ↓w_gnil, ↓w_gcons, ↓w_gseq, ↓w_gsub, ↓w_par, ↓w_for, ↓w_dput, ↓w_app, ↓l_nx, ↓l_ct, ↓l_bk, ↓l_rt, ↓l_ex, ↓w_loop0, ↓w_run1, ↓w_run2, ↓w_run3, ↓e_rt, ↓e_nx, ↓e_ex, e_rt, e_nx, e_ex, l_nx, l_ct, l_bk, l_rt, l_ex, k_add, k_sub, k_mul, k_div, k_mod, k_pow, k_neg, k_cmp, k_eqi, k_nei, k_divmod, k_gcd, k_abs, i_tup, i_lst, i_ro, lo_lst, st_lst, st_ro, st_tup, o_some, o_none, o_map, o_ite, c_true, b_true, b_false, f_nx, f_rt, f_bk, f_ct, f_ex, boolD_bl, intD_int, two_two, w_ok, bx_turn, bx_cells, bx_put, bx_lenc, bx_ix, bx_sub, List.getElem?_cons_zero, List.getElem?_cons_succ, List.getElem?_nil, List.set_cons_zero, List.set_cons_succ, List.map_cons, List.map_nil, List.replicate_succ, List.replicate_zero, List.cons_append, List.nil_append, List.length_cons, List.length_nil, szl, isa_int_non, isa_int_bl, isa_int_int, isa_int_str, isa_int_tup, isa_int_lst, isa_int_ro, isa_bool_non, isa_bool_bl, isa_bool_int, isa_bool_str, isa_bool_tup, isa_bool_lst, isa_bool_ro, isa_tuple_non, isa_tuple_bl, isa_tuple_int, isa_tuple_str, isa_tuple_tup, isa_tuple_lst, isa_tuple_ro, isa_list_non, isa_list_bl, isa_list_int, isa_list_str, isa_list_tup, isa_list_lst, isa_list_ro, isa_str_non, isa_str_bl, isa_str_int, isa_str_str, isa_str_tup, isa_str_lst, isa_str_ro, isl_non, isl_bl, isl_int, isl_str, isl_tup, isl_lst, isl_ro, Nat.zero_add, Nat.reduceAdd, Nat.reduceSub, Nat.reduceLeDiff, Nat.reduceLT, Nat.reducePow, Int.reduceNeg, decide_true, decide_false, Bool.not_true, Bool.not_false, Int.reduceToNat, Int.reducePow, Int.reduceAdd, Int.reduceSub, Int.reduceMul, nco, eq_self, Int.reduceEq, Int.reduceLT, Int.reduceLE, w_run1, w_run2, w_run3, fl_tup, fl_lst, ix_tup0, ix_tup1, Bool.false_eq_true, reduceCtorEq, ↓w_comp0, ↓w_comp1, wipe0, wipe1, fall_lst, bools0, bools1, Option.map_some, List.all_cons, List.all_nil, id, Bool.and_true, Bool.and_false, Bool.true_and, Bool.false_and, ↓t_rt, ↓t_nx, t_rt, t_nx, kz_int, kz_div, kz_isn0, kz_isn1, kz_isn2, kz_isn3, w_raise0, kz_isl1, kz_isl2, kz_isl3, kz_isb1, fr_t, fr_l, gfl_lst, hp])
    refine take_ h2 (by omega) (by decide) (by decide) fun g3 a3 t3 h3 d0 d1 => ?_
    (try simp only [↓w_ok, ↓w_exc, ↓w_bad, ↓w_bnd, ↓w_ret, ↓w_badm, ↓w_lift, ↓o_some, ↓o_none, ↓o_map, ↓o_ite, ↓c_true, ↓b_true, ↓b_false, ↓f_nx, ↓f_rt, ↓f_bk, ↓f_ct, ↓f_ex, ↓w_var, ↓w_c, ↓w_c2, ↓w_c1, ↓w_cN, ↓w_nil, ↓w_cons, ↓w_tup, ↓w_lst, ↓w_frz, ↓w_own, ↓w_call, ↓w_no, ↓w_part, ↓w_sl, ↓w_tB, ↓w_tAnd, ↓w_tOr, ↓w_tNot, ↓w_tYes, ↓w_vAnd, ↓w_vOr, ↓w_vNot, ↓w_if, ↓w_pNil, ↓w_pCons, ↓w_dict, ↓w_lc, ↓w_iSeq, ↓w_iRng, ↓w_next, ↓w_seq, ↓w_do, ↓w_sret, ↓w_sretN, ↓w_drop, ↓w_sif, ↓w_brk, ↓w_cnt, ↓w_asg, ↓w_nm, ↓w_gnil, ↓w_gcons, ↓w_gseq, ↓w_gsub, ↓w_par, ↓w_for, ↓w_dput, ↓w_app, ↓l_nx, ↓l_ct, ↓l_bk, ↓l_rt, ↓l_ex, ↓w_loop0, ↓w_run1, ↓w_run2, ↓w_run3, ↓e_rt, ↓e_nx, ↓e_ex, e_rt, e_nx, e_ex, l_nx, l_ct, l_bk, l_rt, l_ex, k_add, k_sub, k_mul, k_div, k_mod, k_pow, k_neg, k_cmp, k_eqi, k_nei, k_divmod, k_gcd, k_abs, i_tup, i_lst, i_ro, lo_lst, st_lst, st_ro, st_tup, o_some, o_none, o_map, o_ite, c_true, b_true, b_false, f_nx, f_rt, f_bk, f_ct, f_ex, boolD_bl, intD_int, two_two, w_ok, bx_turn, bx_cells, bx_put, bx_lenc, bx_ix, bx_sub, List.getElem?_cons_zero, List.getElem?_cons_succ, List.getElem?_nil, List.set_cons_zero, List.set_cons_succ, List.map_cons, List.map_nil, List.replicate_succ, List.replicate_zero, List.cons_append, List.nil_append, List.length_cons, List.length_nil, szl, isa_int_non, isa_int_bl, isa_int_int, isa_int_str, isa_int_tup, isa_int_lst, isa_int_ro, isa_bool_non, isa_bool_bl, isa_bool_int, isa_bool_str, isa_bool_tup, isa_bool_lst, isa_bool_ro, isa_tuple_non, isa_tuple_bl, isa_tuple_int, isa_tuple_str, isa_tuple_tup, isa_tuple_lst, isa_tuple_ro, isa_list_non, isa_list_bl, isa_list_int, isa_list_str, isa_list_tup, isa_list_lst, isa_list_ro, isa_str_non, isa_str_bl, isa_str_int, isa_str_str, isa_str_tup, isa_str_lst, isa_str_ro, isl_non, isl_bl, isl_int, isl_str, isl_tup, isl_lst, isl_ro, Nat.zero_add, Nat.reduceAdd, Nat.reduceSub, Nat.reduceLeDiff, Nat.reduceLT, Nat.reducePow, Int.reduceNeg, decide_true, decide_false, Bool.not_true, Bool.not_false, Int.reduceToNat, Int.reducePow, Int.reduceAdd, Int.reduceSub, Int.reduceMul, nco, eq_self, Int.reduceEq, Int.reduceLT, Int.reduceLE, w_run1, w_run2, w_run3, fl_tup, fl_lst, ix_tup0, ix_tup1, Bool.false_eq_true, reduceCtorEq, ↓w_comp0, ↓w_comp1, wipe0, wipe1, fall_lst, bools0, bools1, Option.map_some, List.all_cons, List.all_nil, id, Bool.and_true, Bool.and_false, Bool.true_and, Bool.false_and, ↓t_rt, ↓t_nx, t_rt, t_nx, kz_int, kz_div, kz_isn0, kz_isn1, kz_isn2, kz_isn3, w_raise0, kz_isl1, kz_isl2, kz_isl3, kz_isb1, fr_t, fr_l, gfl_lst, hp])
    have sa : Sm (g2 - 1000000) := by unfold Sm; omega
    have sb : Sm (1 + g3) := by unfold Sm; omega
    refine wp_low (by omega) (nat_lt _ sa.lt) (nat_lt _ sb.lt) ?_
    obtain ⟨x, y, e, e1, e2, e3⟩ := low_sm (a := g2 - 1000000) (b := 1 + g3) (by omega) sa sb
    rw [e]
    (try simp only [↓w_ok, ↓w_exc, ↓w_bad, ↓w_bnd, ↓w_ret, ↓w_badm, ↓w_lift, ↓o_some, ↓o_none, ↓o_map, ↓o_ite, ↓c_true, ↓b_true, ↓b_false, ↓f_nx, ↓f_rt, ↓f_bk, ↓f_ct, ↓f_ex, ↓w_var, ↓w_c, ↓w_c2, ↓w_c1, ↓w_cN, ↓w_nil, ↓w_cons, ↓w_tup, ↓w_lst, ↓w_frz, ↓w_own, ↓w_call, ↓w_no, ↓w_part, ↓w_sl, ↓w_tB, ↓w_tAnd, ↓w_tOr, ↓w_tNot, ↓w_tYes, ↓w_vAnd, ↓w_vOr, ↓w_vNot, ↓w_if, ↓w_pNil, ↓w_pCons, ↓w_dict, ↓w_lc, ↓w_iSeq, ↓w_iRng, ↓w_next, ↓w_seq, ↓w_do, ↓w_sret, ↓w_sretN, ↓w_drop, ↓w_sif, ↓w_brk, ↓w_cnt, ↓w_asg, ↓w_nm, ↓w_gnil, ↓w_gcons, ↓w_gseq, ↓w_gsub, ↓w_par, ↓w_for, ↓w_dput, ↓w_app, ↓l_nx, ↓l_ct, ↓l_bk, ↓l_rt, ↓l_ex, ↓w_loop0, ↓w_run1, ↓w_run2, ↓w_run3, ↓e_rt, ↓e_nx, ↓e_ex, e_rt, e_nx, e_ex, l_nx, l_ct, l_bk, l_rt, l_ex, k_add, k_sub, k_mul, k_div, k_mod, k_pow, k_neg, k_cmp, k_eqi, k_nei, k_divmod, k_gcd, k_abs, i_tup, i_lst, i_ro, lo_lst, st_lst, st_ro, st_tup, o_some, o_none, o_map, o_ite, c_true, b_true, b_false, f_nx, f_rt, f_bk, f_ct, f_ex, boolD_bl, intD_int, two_two, w_ok, bx_turn, bx_cells, bx_put, bx_lenc, bx_ix, bx_sub, List.getElem?_cons_zero, List.getElem?_cons_succ, List.getElem?_nil, List.set_cons_zero, List.set_cons_succ, List.map_cons, List.map_nil, List.replicate_succ, List.replicate_zero, List.cons_append, List.nil_append, List.length_cons, List.length_nil, szl, isa_int_non, isa_int_bl, isa_int_int, isa_int_str, isa_int_tup, isa_int_lst, isa_int_ro, isa_bool_non, isa_bool_bl, isa_bool_int, isa_bool_str, isa_bool_tup, isa_bool_lst, isa_bool_ro, isa_tuple_non, isa_tuple_bl, isa_tuple_int, isa_tuple_str, isa_tuple_tup, isa_tuple_lst, isa_tuple_ro, isa_list_non, isa_list_bl, isa_list_int, isa_list_str, isa_list_tup, isa_list_lst, isa_list_ro, isa_str_non, isa_str_bl, isa_str_int, isa_str_str, isa_str_tup, isa_str_lst, isa_str_ro, isl_non, isl_bl, isl_int, isl_str, isl_tup, isl_lst, isl_ro, Nat.zero_add, Nat.reduceAdd, Nat.reduceSub, Nat.reduceLeDiff, Nat.reduceLT, Nat.reducePow, Int.reduceNeg, decide_true, decide_false, Bool.not_true, Bool.not_false, Int.reduceToNat, Int.reducePow, Int.reduceAdd, Int.reduceSub, Int.reduceMul, nco, eq_self, Int.reduceEq, Int.reduceLT, Int.reduceLE, w_run1, w_run2, w_run3, fl_tup, fl_lst, ix_tup0, ix_tup1, Bool.false_eq_true, reduceCtorEq, ↓w_comp0, ↓w_comp1, wipe0, wipe1, fall_lst, bools0, bools1, Option.map_some, List.all_cons, List.all_nil, id, Bool.and_true, Bool.and_false, Bool.true_and, Bool.false_and, ↓t_rt, ↓t_nx, t_rt, t_nx, kz_int, kz_div, kz_isn0, kz_isn1, kz_isn2, kz_isn3, w_raise0, kz_isl1, kz_isl2, kz_isl3, kz_isb1, fr_t, fr_l, gfl_lst])
    exact q _ _ a3 t3 e1 e2 e3 (h3.up (by omega))
  · have hb := of_decide_eq_false hb
    (try simp only [↓w_ok, ↓w_exc, ↓w_bad, ↓w_bnd, ↓w_ret, ↓w_badm, ↓w_lift, ↓o_some, ↓o_none, ↓o_map, ↓o_ite, ↓c_true, ↓b_true, ↓b_false, ↓f_nx, ↓f_rt, ↓f_bk, ↓f_ct, ↓f_ex, ↓w_var, ↓w_c, ↓w_c2, ↓w_c1, ↓w_cN, ↓w_nil, ↓w_cons, ↓w_tup, ↓w_lst, ↓w_frz, ↓w_own, ↓w_call, ↓w_no, ↓w_part, ↓w_sl, ↓w_tB, ↓w_tAnd, ↓w_tOr, ↓w_tNot, ↓w_tYes, ↓w_vAnd, ↓w_vOr, ↓w_vNot, ↓w_if, ↓w_pNil, ↓w_pCons, ↓w_dict, ↓w_lc, ↓w_iSeq, ↓w_iRng, ↓w_next, ↓w_seq, ↓w_do, ↓w_sret, ↓w_sretN, ↓w_drop, ↓w_sif, ↓w_brk, ↓w_cnt, ↓w_asg, ↓w_nm, ↓w_gnil, ↓w_gcons, ↓w_gseq, ↓w_gsub, ↓w_par, ↓w_for, ↓w_dput, ↓w_app, ↓l_nx, ↓l_ct, ↓l_bk, ↓l_rt, ↓l_ex, ↓w_loop0, ↓w_run1, ↓w_run2, ↓w_run3, ↓e_rt, ↓e_nx, ↓e_ex, e_rt, e_nx, e_ex, l_nx, l_ct, l_bk, l_rt, l_ex, k_add, k_sub, k_mul, k_div, k_mod, k_pow, k_neg, k_cmp, k_eqi, k_nei, k_divmod, k_gcd, k_abs, i_tup, i_lst, i_ro, lo_lst, st_lst, st_ro, st_tup, o_some, o_none, o_map, o_ite, c_true, b_true, b_false, f_nx, f_rt, f_bk, f_ct, f_ex, boolD_bl, intD_int, two_two, w_ok, bx_turn, bx_cells, bx_put, bx_lenc, bx_ix, bx_sub, List.getElem?_cons_zero, List.getElem?_cons_succ, List.getElem?_nil, List.set_cons_zero, List.set_cons_succ, List.map_cons, List.map_nil, List.replicate_succ, List.replicate_zero, List.cons_append, List.nil_append, List.length_cons, List.length_nil, szl, isa_int_non, isa_int_bl, isa_int_int, isa_int_str, isa_int_tup, isa_int_lst, isa_int_ro, isa_bool_non, isa_bool_bl, isa_bool_int, isa_bool_str, isa_bool_tup, isa_bool_lst, isa_bool_ro, isa_tuple_non, isa_tuple_bl, isa_tuple_int, isa_tuple_str, isa_tuple_tup, isa_tuple_lst, isa_tuple_ro, isa_list_non, isa_list_bl, isa_list_int, isa_list_str, isa_list_tup, isa_list_lst, isa_list_ro, isa_str_non, isa_str_bl, isa_str_int, isa_str_str, isa_str_tup, isa_str_lst, isa_str_ro, isl_non, isl_bl, isl_int, isl_str, isl_tup, isl_lst, isl_ro, Nat.zero_add, Nat.reduceAdd, Nat.reduceSub, Nat.reduceLeDiff, Nat.reduceLT, Nat.reducePow, Int.reduceNeg, decide_true, decide_false, Bool.not_true, Bool.not_false, Int.reduceToNat, Int.reducePow, Int.reduceAdd, Int.reduceSub, Int.reduceMul, nco, eq_self, Int.reduceEq, Int.reduceLT, Int.reduceLE, w_run1, w_run2, w_run3, fl_tup, fl_lst, ix_tup0, ix_tup1, Bool.false_eq_true, reduceCtorEq, ↓w_comp0, ↓w_comp1, wipe0, wipe1, fall_lst, bools0, bools1, Option.map_some, List.all_cons, List.all_nil, id, Bool.and_true, Bool.and_false, Bool.true_and, Bool.false_and, ↓t_rt, ↓t_nx, t_rt, t_nx, kz_int, kz_div, kz_isn0, kz_isn1, kz_isn2, kz_isn3, w_raise0, kz_isl1, kz_isl2, kz_isl3, kz_isb1, fr_t, fr_l, gfl_lst])
    refine take_ h1 (by omega) (by decide) (by decide) fun g2 a2 t2 h2 c0 c1 => ?_
    obtain ⟨x, hx, ex⟩ := pick_lst (st := bx e a2 t2 ++ r) (g := g1 - 1) (xs := [.int 1, .int 1, .int 1, .int 2, .int 3, .int 5, .int 12]) (by omega) (by simp only [List.length_cons, List.length_nil]; omega)
    have hv : ∃ v, x = .int v ∧ 0 < v ∧ v ≤ 12 := by
      simp only [List.mem_cons, List.not_mem_nil, or_false] at hx
      rcases hx with rfl | rfl | rfl | rfl | rfl | rfl | rfl <;> exact ⟨_, rfl, by decide, by decide⟩
    obtain ⟨v, rfl, v0, v1⟩ := hv
    (try simp only [↓w_ok, ↓w_exc, ↓w_bad, ↓w_bnd, ↓w_ret, ↓w_badm, ↓w_lift, ↓o_some, ↓o_none, ↓o_map, ↓o_ite, ↓c_true, ↓b_true, ↓b_false, ↓f_nx, ↓f_rt, ↓f_bk, ↓f_ct, ↓f_ex, ↓w_var, ↓w_c, ↓w_c2, ↓w_c1, ↓w_cN, ↓w_nil, ↓w_cons, ↓w_tup, ↓w_lst, ↓w_frz, ↓w_own, ↓w_call, ↓w_no, ↓w_part, ↓w_sl, ↓w_tB, ↓w_tAnd, ↓w_tOr, ↓w_tNot, ↓w_tYes, ↓w_vAnd, ↓w_vOr, ↓w_vNot, ↓w_if, ↓w_pNil, ↓w_pCons, ↓w_dict, ↓w_lc, ↓w_iSeq, ↓w_iRng, ↓w_next, ↓w_seq, ↓w_do, ↓w_sret, ↓w_sretN, ↓w_drop, ↓w_sif, ↓w_brk, ↓w_cnt, ↓w_asg, ↓w_nm, ↓w_gnil, ↓w_gcons, ↓w_gseq, ↓w_gsub, ↓w_par, ↓w_for, ↓w_dput, ↓w_app, ↓l_nx, ↓l_ct, ↓l_bk, ↓l_rt, ↓l_ex, ↓w_loop0, ↓w_run1, ↓w_run2, ↓w_run3, ↓e_rt, ↓e_nx, ↓e_ex, e_rt, e_nx, e_ex, l_nx, l_ct, l_bk, l_rt, l_ex, k_add, k_sub, k_mul, k_div, k_mod, k_pow, k_neg, k_cmp, k_eqi, k_nei, k_divmod, k_gcd, k_abs, i_tup, i_lst, i_ro, lo_lst, st_lst, st_ro, st_tup, o_some, o_none, o_map, o_ite, c_true, b_true, b_false, f_nx, f_rt, f_bk, f_ct, f_ex, boolD_bl, intD_int, two_two, w_ok, bx_turn, bx_cells, bx_put, bx_lenc, bx_ix, bx_sub, List.getElem?_cons_zero, List.getElem?_cons_succ, List.getElem?_nil, List.set_cons_zero, List.set_cons_succ, List.map_cons, List.map_nil, List.replicate_succ, List.replicate_zero, List.cons_append, List.nil_append, List.length_cons, List.length_nil, szl, isa_int_non, isa_int_bl, isa_int_int, isa_int_str, isa_int_tup, isa_int_lst, isa_int_ro, isa_bool_non, isa_bool_bl, isa_bool_int, isa_bool_str, isa_bool_tup, isa_bool_lst, isa_bool_ro, isa_tuple_non, isa_tuple_bl, isa_tuple_int, isa_tuple_str, isa_tuple_tup, isa_tuple_lst, isa_tuple_ro, isa_list_non, isa_list_bl, isa_list_int, isa_list_str, isa_list_tup, isa_list_lst, isa_list_ro, isa_str_non, isa_str_bl, isa_str_int, isa_str_str, isa_str_tup, isa_str_lst, isa_str_ro, isl_non, isl_bl, isl_int, isl_str, isl_tup, isl_lst, isl_ro, Nat.zero_add, Nat.reduceAdd, Nat.reduceSub, Nat.reduceLeDiff, Nat.reduceLT, Nat.reducePow, Int.reduceNeg, decide_true, decide_false, Bool.not_true, Bool.not_false, Int.reduceToNat, Int.reducePow, Int.reduceAdd, Int.reduceSub, Int.reduceMul, nco, eq_self, Int.reduceEq, Int.reduceLT, Int.reduceLE, w_run1, w_run2, w_run3, fl_tup, fl_lst, ix_tup0, ix_tup1, Bool.false_eq_true, reduceCtorEq, ↓w_comp0, ↓w_comp1, wipe0, wipe1, fall_lst, bools0, bools1, Option.map_some, List.all_cons, List.all_nil, id, Bool.and_true, Bool.and_false, Bool.true_and, Bool.false_and, ↓t_rt, ↓t_nx, t_rt, t_nx, kz_int, kz_div, kz_isn0, kz_isn1, kz_isn2, kz_isn3, w_raise0, kz_isl1, kz_isl2, kz_isl3, kz_isb1, fr_t, fr_l, gfl_lst])
    refine wo_i ex ?_
    (try simp only [↓w_ok, ↓w_exc, ↓w_bad, ↓w_bnd, ↓w_ret, ↓w_badm, ↓w_lift, ↓o_some, ↓o_none, ↓o_map, ↓o_ite, ↓c_true, ↓b_true, ↓b_false, ↓f_nx, ↓f_rt, ↓f_bk, ↓f_ct, ↓f_ex, ↓w_var, ↓w_c, ↓w_c2, ↓w_c1, ↓w_cN, ↓w_nil, ↓w_cons, ↓w_tup, ↓w_lst, ↓w_frz, ↓w_own, ↓w_call, ↓w_no, ↓w_part, ↓w_sl, ↓w_tB, ↓w_tAnd, ↓w_tOr, ↓w_tNot, ↓w_tYes, ↓w_vAnd, ↓w_vOr, ↓w_vNot, ↓w_if, ↓w_pNil, ↓w_pCons, ↓w_dict, ↓w_lc, ↓w_iSeq, ↓w_iRng, ↓w_next, ↓w_seq, ↓w_do, ↓w_sret, ↓w_sretN, ↓w_drop, ↓w_sif, ↓w_brk, ↓w_cnt, ↓w_asg, ↓w_nm, ↓w_gnil, ↓w_gcons, ↓w_gseq, ↓w_gsub, ↓w_par, ↓w_for, ↓w_dput, ↓w_app, ↓l_nx, ↓l_ct, ↓l_bk, ↓l_rt, ↓l_ex, ↓w_loop0, ↓w_run1, ↓w_run2, ↓w_run3, ↓e_rt, ↓e_nx, ↓e_ex, e_rt, e_nx, e_ex, l_nx, l_ct, l_bk, l_rt, l_ex, k_add, k_sub, k_mul, k_div, k_mod, k_pow, k_neg, k_cmp, k_eqi, k_nei, k_divmod, k_gcd, k_abs, i_tup, i_lst, i_ro, lo_lst, st_lst, st_ro, st_tup, o_some, o_none, o_map, o_ite, c_true, b_true, b_false, f_nx, f_rt, f_bk, f_ct, f_ex, boolD_bl, intD_int, two_two, w_ok, bx_turn, bx_cells, bx_put, bx_lenc, bx_ix, bx_sub, List.getElem?_cons_zero, List.getElem?_cons_succ, List.getElem?_nil, List.set_cons_zero, List.set_cons_succ, List.map_cons, List.map_nil, List.replicate_succ, List.replicate_zero, List.cons_append, List.nil_append, List.length_cons, List.length_nil, szl, isa_int_non, isa_int_bl, isa_int_int, isa_int_str, isa_int_tup, isa_int_lst, isa_int_ro, isa_bool_non, isa_bool_bl, isa_bool_int, isa_bool_str, isa_bool_tup, isa_bool_lst, isa_bool_ro, isa_tuple_non, isa_tuple_bl, isa_tuple_int, isa_tuple_str, isa_tuple_tup, isa_tuple_lst, isa_tuple_ro, isa_list_non, isa_list_bl, isa_list_int, isa_list_str, isa_list_tup, isa_list_lst, isa_list_ro, isa_str_non, isa_str_bl, isa_str_int, isa_str_str, isa_str_tup, isa_str_lst, isa_str_ro, isl_non, isl_bl, isl_int, isl_str, isl_tup, isl_lst, isl_ro, Nat.zero_add, Nat.reduceAdd, Nat.reduceSub, Nat.reduceLeDiff, Nat.reduceLT, Nat.reducePow, Int.reduceNeg, decide_true, decide_false, Bool.not_true, Bool.not_false, Int.reduceToNat, Int.reducePow, Int.reduceAdd, Int.reduceSub, Int.reduceMul, nco, eq_self, Int.reduceEq, Int.reduceLT, Int.reduceLE, w_run1, w_run2, w_run3, fl_tup, fl_lst, ix_tup0, ix_tup1, Bool.false_eq_true, reduceCtorEq, ↓w_comp0, ↓w_comp1, wipe0, wipe1, fall_lst, bools0, bools1, Option.map_some, List.all_cons, List.all_nil, id, Bool.and_true, Bool.and_false, Bool.true_and, Bool.false_and, ↓t_rt, ↓t_nx, t_rt, t_nx, kz_int, kz_div, kz_isn0, kz_isn1, kz_isn2, kz_isn3, w_raise0, kz_isl1, kz_isl2, kz_isl3, kz_isb1, fr_t, fr_l, gfl_lst])
    have sa : Sm (g2 - 6) := by unfold Sm; omega
    have sb : Sm v := by unfold Sm; omega
    refine wp_low (by omega) (nat_lt _ sa.lt) (nat_lt _ sb.lt) ?_
    obtain ⟨x, y, e, e1, e2, e3⟩ := low_sm (a := g2 - 6) (b := v) (by omega) sa sb
    rw [e]
    (try simp only [↓w_ok, ↓w_exc, ↓w_bad, ↓w_bnd, ↓w_ret, ↓w_badm, ↓w_lift, ↓o_some, ↓o_none, ↓o_map, ↓o_ite, ↓c_true, ↓b_true, ↓b_false, ↓f_nx, ↓f_rt, ↓f_bk, ↓f_ct, ↓f_ex, ↓w_var, ↓w_c, ↓w_c2, ↓w_c1, ↓w_cN, ↓w_nil, ↓w_cons, ↓w_tup, ↓w_lst, ↓w_frz, ↓w_own, ↓w_call, ↓w_no, ↓w_part, ↓w_sl, ↓w_tB, ↓w_tAnd, ↓w_tOr, ↓w_tNot, ↓w_tYes, ↓w_vAnd, ↓w_vOr, ↓w_vNot, ↓w_if, ↓w_pNil, ↓w_pCons, ↓w_dict, ↓w_lc, ↓w_iSeq, ↓w_iRng, ↓w_next, ↓w_seq, ↓w_do, ↓w_sret, ↓w_sretN, ↓w_drop, ↓w_sif, ↓w_brk, ↓w_cnt, ↓w_asg, ↓w_nm, ↓w_gnil, ↓w_gcons, ↓w_gseq, ↓w_gsub, ↓w_par, ↓w_for, ↓w_dput, ↓w_app, ↓l_nx, ↓l_ct, ↓l_bk, ↓l_rt, ↓l_ex, ↓w_loop0, ↓w_run1, ↓w_run2, ↓w_run3, ↓e_rt, ↓e_nx, ↓e_ex, e_rt, e_nx, e_ex, l_nx, l_ct, l_bk, l_rt, l_ex, k_add, k_sub, k_mul, k_div, k_mod, k_pow, k_neg, k_cmp, k_eqi, k_nei, k_divmod, k_gcd, k_abs, i_tup, i_lst, i_ro, lo_lst, st_lst, st_ro, st_tup, o_some, o_none, o_map, o_ite, c_true, b_true, b_false, f_nx, f_rt, f_bk, f_ct, f_ex, boolD_bl, intD_int, two_two, w_ok, bx_turn, bx_cells, bx_put, bx_lenc, bx_ix, bx_sub, List.getElem?_cons_zero, List.getElem?_cons_succ, List.getElem?_nil, List.set_cons_zero, List.set_cons_succ, List.map_cons, List.map_nil, List.replicate_succ, List.replicate_zero, List.cons_append, List.nil_append, List.length_cons, List.length_nil, szl, isa_int_non, isa_int_bl, isa_int_int, isa_int_str, isa_int_tup, isa_int_lst, isa_int_ro, isa_bool_non, isa_bool_bl, isa_bool_int, isa_bool_str, isa_bool_tup, isa_bool_lst, isa_bool_ro, isa_tuple_non, isa_tuple_bl, isa_tuple_int, isa_tuple_str, isa_tuple_tup, isa_tuple_lst, isa_tuple_ro, isa_list_non, isa_list_bl, isa_list_int, isa_list_str, isa_list_tup, isa_list_lst, isa_list_ro, isa_str_non, isa_str_bl, isa_str_int, isa_str_str, isa_str_tup, isa_str_lst, isa_str_ro, isl_non, isl_bl, isl_int, isl_str, isl_tup, isl_lst, isl_ro, Nat.zero_add, Nat.reduceAdd, Nat.reduceSub, Nat.reduceLeDiff, Nat.reduceLT, Nat.reducePow, Int.reduceNeg, decide_true, decide_false, Bool.not_true, Bool.not_false, Int.reduceToNat, Int.reducePow, Int.reduceAdd, Int.reduceSub, Int.reduceMul, nco, eq_self, Int.reduceEq, Int.reduceLT, Int.reduceLE, w_run1, w_run2, w_run3, fl_tup, fl_lst, ix_tup0, ix_tup1, Bool.false_eq_true, reduceCtorEq, ↓w_comp0, ↓w_comp1, wipe0, wipe1, fall_lst, bools0, bools1, Option.map_some, List.all_cons, List.all_nil, id, Bool.and_true, Bool.and_false, Bool.true_and, Bool.false_and, ↓t_rt, ↓t_nx, t_rt, t_nx, kz_int, kz_div, kz_isn0, kz_isn1, kz_isn2, kz_isn3, w_raise0, kz_isl1, kz_isl2, kz_isl3, kz_isb1, fr_t, fr_l, gfl_lst])
    exact q _ _ a2 t2 e1 e2 e3 (h2.up (by omega))
theorem lowD_eq {a b x y : Int} (h : sg b * a / (Nat.gcd a.natAbs b.natAbs : Nat) = x ∧ sg b * b / (Nat.gcd a.natAbs b.natAbs : Nat) = y) : lowD a b = .tup [.int x, .int y] := by
  unfold lowD
  rw [h.1, h.2]
theorem k02_true (ns : List Int) (hn : ns.length ≤ 63) : wp (fun a _ => a = .bl true) F0 () (Gk02.m_law [.ro (ns.map .int)] []) := by
  unfold Gk02.m_law
  (try simp only [↓w_ok, ↓w_exc, ↓w_bad, ↓w_bnd, ↓w_ret, ↓w_badm, ↓w_lift, ↓o_some, ↓o_none, ↓o_map, ↓o_ite, ↓c_true, ↓b_true, ↓b_false, ↓f_nx, ↓f_rt, ↓f_bk, ↓f_ct, ↓f_ex, ↓w_var, ↓w_c, ↓w_c2, ↓w_c1, ↓w_cN, ↓w_nil, ↓w_cons, ↓w_tup, ↓w_lst, ↓w_frz, ↓w_own, ↓w_call, ↓w_no, ↓w_part, ↓w_sl, ↓w_tB, ↓w_tAnd, ↓w_tOr, ↓w_tNot, ↓w_tYes, ↓w_vAnd, ↓w_vOr, ↓w_vNot, ↓w_if, ↓w_pNil, ↓w_pCons, ↓w_dict, ↓w_lc, ↓w_iSeq, ↓w_iRng, ↓w_next, ↓w_seq, ↓w_do, ↓w_sret, ↓w_sretN, ↓w_drop, ↓w_sif, ↓w_brk, ↓w_cnt, ↓w_asg, ↓w_nm, ↓w_gnil, ↓w_gcons, ↓w_gseq, ↓w_gsub, ↓w_par, ↓w_for, ↓w_dput, ↓w_app, ↓l_nx, ↓l_ct, ↓l_bk, ↓l_rt, ↓l_ex, ↓w_loop0, ↓w_run1, ↓w_run2, ↓w_run3, ↓e_rt, ↓e_nx, ↓e_ex, e_rt, e_nx, e_ex, l_nx, l_ct, l_bk, l_rt, l_ex, k_add, k_sub, k_mul, k_div, k_mod, k_pow, k_neg, k_cmp, k_eqi, k_nei, k_divmod, k_gcd, k_abs, i_tup, i_lst, i_ro, lo_lst, st_lst, st_ro, st_tup, o_some, o_none, o_map, o_ite, c_true, b_true, b_false, f_nx, f_rt, f_bk, f_ct, f_ex, boolD_bl, intD_int, two_two, w_ok, bx_turn, bx_cells, bx_put, bx_lenc, bx_ix, bx_sub, List.getElem?_cons_zero, List.getElem?_cons_succ, List.getElem?_nil, List.set_cons_zero, List.set_cons_succ, List.map_cons, List.map_nil, List.replicate_succ, List.replicate_zero, List.cons_append, List.nil_append, List.length_cons, List.length_nil, szl, isa_int_non, isa_int_bl, isa_int_int, isa_int_str, isa_int_tup, isa_int_lst, isa_int_ro, isa_bool_non, isa_bool_bl, isa_bool_int, isa_bool_str, isa_bool_tup, isa_bool_lst, isa_bool_ro, isa_tuple_non, isa_tuple_bl, isa_tuple_int, isa_tuple_str, isa_tuple_tup, isa_tuple_lst, isa_tuple_ro, isa_list_non, isa_list_bl, isa_list_int, isa_list_str, isa_list_tup, isa_list_lst, isa_list_ro, isa_str_non, isa_str_bl, isa_str_int, isa_str_str, isa_str_tup, isa_str_lst, isa_str_ro, isl_non, isl_bl, isl_int, isl_str, isl_tup, isl_lst, isl_ro, Nat.zero_add, Nat.reduceAdd, Nat.reduceSub, Nat.reduceLeDiff, Nat.reduceLT, Nat.reducePow, Int.reduceNeg, decide_true, decide_false, Bool.not_true, Bool.not_false, Int.reduceToNat, Int.reducePow, Int.reduceAdd, Int.reduceSub, Int.reduceMul, nco, eq_self, Int.reduceEq, Int.reduceLT, Int.reduceLE, w_run1, w_run2, w_run3, fl_tup, fl_lst, ix_tup0, ix_tup1, Bool.false_eq_true, reduceCtorEq, ↓w_comp0, ↓w_comp1, wipe0, wipe1, fall_lst, bools0, bools1, Option.map_some, List.all_cons, List.all_nil, id, Bool.and_true, Bool.and_false, Bool.true_and, Bool.false_and, ↓t_rt, ↓t_nx, t_rt, t_nx, kz_int, kz_div, kz_isn0, kz_isn1, kz_isn2, kz_isn3, w_raise0, kz_isl1, kz_isl2, kz_isl3, kz_isb1, fr_t, fr_l, gfl_lst])
  refine wp_begin hn fun e cs h0 => ?_
  rw [show bx e cs 0 = bx e cs 0 ++ [] from (List.append_nil _).symm]
  (try simp only [↓w_ok, ↓w_exc, ↓w_bad, ↓w_bnd, ↓w_ret, ↓w_badm, ↓w_lift, ↓o_some, ↓o_none, ↓o_map, ↓o_ite, ↓c_true, ↓b_true, ↓b_false, ↓f_nx, ↓f_rt, ↓f_bk, ↓f_ct, ↓f_ex, ↓w_var, ↓w_c, ↓w_c2, ↓w_c1, ↓w_cN, ↓w_nil, ↓w_cons, ↓w_tup, ↓w_lst, ↓w_frz, ↓w_own, ↓w_call, ↓w_no, ↓w_part, ↓w_sl, ↓w_tB, ↓w_tAnd, ↓w_tOr, ↓w_tNot, ↓w_tYes, ↓w_vAnd, ↓w_vOr, ↓w_vNot, ↓w_if, ↓w_pNil, ↓w_pCons, ↓w_dict, ↓w_lc, ↓w_iSeq, ↓w_iRng, ↓w_next, ↓w_seq, ↓w_do, ↓w_sret, ↓w_sretN, ↓w_drop, ↓w_sif, ↓w_brk, ↓w_cnt, ↓w_asg, ↓w_nm, ↓w_gnil, ↓w_gcons, ↓w_gseq, ↓w_gsub, ↓w_par, ↓w_for, ↓w_dput, ↓w_app, ↓l_nx, ↓l_ct, ↓l_bk, ↓l_rt, ↓l_ex, ↓w_loop0, ↓w_run1, ↓w_run2, ↓w_run3, ↓e_rt, ↓e_nx, ↓e_ex, e_rt, e_nx, e_ex, l_nx, l_ct, l_bk, l_rt, l_ex, k_add, k_sub, k_mul, k_div, k_mod, k_pow, k_neg, k_cmp, k_eqi, k_nei, k_divmod, k_gcd, k_abs, i_tup, i_lst, i_ro, lo_lst, st_lst, st_ro, st_tup, o_some, o_none, o_map, o_ite, c_true, b_true, b_false, f_nx, f_rt, f_bk, f_ct, f_ex, boolD_bl, intD_int, two_two, w_ok, bx_turn, bx_cells, bx_put, bx_lenc, bx_ix, bx_sub, List.getElem?_cons_zero, List.getElem?_cons_succ, List.getElem?_nil, List.set_cons_zero, List.set_cons_succ, List.map_cons, List.map_nil, List.replicate_succ, List.replicate_zero, List.cons_append, List.nil_append, List.length_cons, List.length_nil, szl, isa_int_non, isa_int_bl, isa_int_int, isa_int_str, isa_int_tup, isa_int_lst, isa_int_ro, isa_bool_non, isa_bool_bl, isa_bool_int, isa_bool_str, isa_bool_tup, isa_bool_lst, isa_bool_ro, isa_tuple_non, isa_tuple_bl, isa_tuple_int, isa_tuple_str, isa_tuple_tup, isa_tuple_lst, isa_tuple_ro, isa_list_non, isa_list_bl, isa_list_int, isa_list_str, isa_list_tup, isa_list_lst, isa_list_ro, isa_str_non, isa_str_bl, isa_str_int, isa_str_str, isa_str_tup, isa_str_lst, isa_str_ro, isl_non, isl_bl, isl_int, isl_str, isl_tup, isl_lst, isl_ro, Nat.zero_add, Nat.reduceAdd, Nat.reduceSub, Nat.reduceLeDiff, Nat.reduceLT, Nat.reducePow, Int.reduceNeg, decide_true, decide_false, Bool.not_true, Bool.not_false, Int.reduceToNat, Int.reducePow, Int.reduceAdd, Int.reduceSub, Int.reduceMul, nco, eq_self, Int.reduceEq, Int.reduceLT, Int.reduceLE, w_run1, w_run2, w_run3, fl_tup, fl_lst, ix_tup0, ix_tup1, Bool.false_eq_true, reduceCtorEq, ↓w_comp0, ↓w_comp1, wipe0, wipe1, fall_lst, bools0, bools1, Option.map_some, List.all_cons, List.all_nil, id, Bool.and_true, Bool.and_false, Bool.true_and, Bool.false_and, ↓t_rt, ↓t_nx, t_rt, t_nx, kz_int, kz_div, kz_isn0, kz_isn1, kz_isn2, kz_isn3, w_raise0, kz_isl1, kz_isl2, kz_isl3, kz_isb1, fr_t, fr_l, gfl_lst])
  refine wo_i (rngD1 ⟨by decide, by decide⟩) ?_
  (try simp only [↓w_ok, ↓w_exc, ↓w_bad, ↓w_bnd, ↓w_ret, ↓w_badm, ↓w_lift, ↓o_some, ↓o_none, ↓o_map, ↓o_ite, ↓c_true, ↓b_true, ↓b_false, ↓f_nx, ↓f_rt, ↓f_bk, ↓f_ct, ↓f_ex, ↓w_var, ↓w_c, ↓w_c2, ↓w_c1, ↓w_cN, ↓w_nil, ↓w_cons, ↓w_tup, ↓w_lst, ↓w_frz, ↓w_own, ↓w_call, ↓w_no, ↓w_part, ↓w_sl, ↓w_tB, ↓w_tAnd, ↓w_tOr, ↓w_tNot, ↓w_tYes, ↓w_vAnd, ↓w_vOr, ↓w_vNot, ↓w_if, ↓w_pNil, ↓w_pCons, ↓w_dict, ↓w_lc, ↓w_iSeq, ↓w_iRng, ↓w_next, ↓w_seq, ↓w_do, ↓w_sret, ↓w_sretN, ↓w_drop, ↓w_sif, ↓w_brk, ↓w_cnt, ↓w_asg, ↓w_nm, ↓w_gnil, ↓w_gcons, ↓w_gseq, ↓w_gsub, ↓w_par, ↓w_for, ↓w_dput, ↓w_app, ↓l_nx, ↓l_ct, ↓l_bk, ↓l_rt, ↓l_ex, ↓w_loop0, ↓w_run1, ↓w_run2, ↓w_run3, ↓e_rt, ↓e_nx, ↓e_ex, e_rt, e_nx, e_ex, l_nx, l_ct, l_bk, l_rt, l_ex, k_add, k_sub, k_mul, k_div, k_mod, k_pow, k_neg, k_cmp, k_eqi, k_nei, k_divmod, k_gcd, k_abs, i_tup, i_lst, i_ro, lo_lst, st_lst, st_ro, st_tup, o_some, o_none, o_map, o_ite, c_true, b_true, b_false, f_nx, f_rt, f_bk, f_ct, f_ex, boolD_bl, intD_int, two_two, w_ok, bx_turn, bx_cells, bx_put, bx_lenc, bx_ix, bx_sub, List.getElem?_cons_zero, List.getElem?_cons_succ, List.getElem?_nil, List.set_cons_zero, List.set_cons_succ, List.map_cons, List.map_nil, List.replicate_succ, List.replicate_zero, List.cons_append, List.nil_append, List.length_cons, List.length_nil, szl, isa_int_non, isa_int_bl, isa_int_int, isa_int_str, isa_int_tup, isa_int_lst, isa_int_ro, isa_bool_non, isa_bool_bl, isa_bool_int, isa_bool_str, isa_bool_tup, isa_bool_lst, isa_bool_ro, isa_tuple_non, isa_tuple_bl, isa_tuple_int, isa_tuple_str, isa_tuple_tup, isa_tuple_lst, isa_tuple_ro, isa_list_non, isa_list_bl, isa_list_int, isa_list_str, isa_list_tup, isa_list_lst, isa_list_ro, isa_str_non, isa_str_bl, isa_str_int, isa_str_str, isa_str_tup, isa_str_lst, isa_str_ro, isl_non, isl_bl, isl_int, isl_str, isl_tup, isl_lst, isl_ro, Nat.zero_add, Nat.reduceAdd, Nat.reduceSub, Nat.reduceLeDiff, Nat.reduceLT, Nat.reducePow, Int.reduceNeg, decide_true, decide_false, Bool.not_true, Bool.not_false, Int.reduceToNat, Int.reducePow, Int.reduceAdd, Int.reduceSub, Int.reduceMul, nco, eq_self, Int.reduceEq, Int.reduceLT, Int.reduceLE, w_run1, w_run2, w_run3, fl_tup, fl_lst, ix_tup0, ix_tup1, Bool.false_eq_true, reduceCtorEq, ↓w_comp0, ↓w_comp1, wipe0, wipe1, fall_lst, bools0, bools1, Option.map_some, List.all_cons, List.all_nil, id, Bool.and_true, Bool.and_false, Bool.true_and, Bool.false_and, ↓t_rt, ↓t_nx, t_rt, t_nx, kz_int, kz_div, kz_isn0, kz_isn1, kz_isn2, kz_isn3, w_raise0, kz_isl1, kz_isl2, kz_isl3, kz_isb1, fr_t, fr_l, gfl_lst])
  refine w_loop (I := fun i nv s => ∃ cs t o2 o3 o4 o5 o6, BxOk cs t (12 * i) ∧ nv = [some (.ro (ns.map .int)), some (.ref (bB e)), o2, o3, o4, o5, o6] ∧ s = bx e cs t ++ [])
    ⟨cs, 0, none, none, none, none, none, h0, rfl, rfl⟩ ?_ ?_
  · rintro i x nv s hi ⟨cs, t, o2, o3, o4, o5, o6, h, rfl, rfl⟩
    have hi20 : i < 20 := by
      have := (List.getElem?_eq_some_iff.mp hi).1
      simpa [upTo] using this
    (try simp only [↓w_ok, ↓w_exc, ↓w_bad, ↓w_bnd, ↓w_ret, ↓w_badm, ↓w_lift, ↓o_some, ↓o_none, ↓o_map, ↓o_ite, ↓c_true, ↓b_true, ↓b_false, ↓f_nx, ↓f_rt, ↓f_bk, ↓f_ct, ↓f_ex, ↓w_var, ↓w_c, ↓w_c2, ↓w_c1, ↓w_cN, ↓w_nil, ↓w_cons, ↓w_tup, ↓w_lst, ↓w_frz, ↓w_own, ↓w_call, ↓w_no, ↓w_part, ↓w_sl, ↓w_tB, ↓w_tAnd, ↓w_tOr, ↓w_tNot, ↓w_tYes, ↓w_vAnd, ↓w_vOr, ↓w_vNot, ↓w_if, ↓w_pNil, ↓w_pCons, ↓w_dict, ↓w_lc, ↓w_iSeq, ↓w_iRng, ↓w_next, ↓w_seq, ↓w_do, ↓w_sret, ↓w_sretN, ↓w_drop, ↓w_sif, ↓w_brk, ↓w_cnt, ↓w_asg, ↓w_nm, ↓w_gnil, ↓w_gcons, ↓w_gseq, ↓w_gsub, ↓w_par, ↓w_for, ↓w_dput, ↓w_app, ↓l_nx, ↓l_ct, ↓l_bk, ↓l_rt, ↓l_ex, ↓w_loop0, ↓w_run1, ↓w_run2, ↓w_run3, ↓e_rt, ↓e_nx, ↓e_ex, e_rt, e_nx, e_ex, l_nx, l_ct, l_bk, l_rt, l_ex, k_add, k_sub, k_mul, k_div, k_mod, k_pow, k_neg, k_cmp, k_eqi, k_nei, k_divmod, k_gcd, k_abs, i_tup, i_lst, i_ro, lo_lst, st_lst, st_ro, st_tup, o_some, o_none, o_map, o_ite, c_true, b_true, b_false, f_nx, f_rt, f_bk, f_ct, f_ex, boolD_bl, intD_int, two_two, w_ok, bx_turn, bx_cells, bx_put, bx_lenc, bx_ix, bx_sub, List.getElem?_cons_zero, List.getElem?_cons_succ, List.getElem?_nil, List.set_cons_zero, List.set_cons_succ, List.map_cons, List.map_nil, List.replicate_succ, List.replicate_zero, List.cons_append, List.nil_append, List.length_cons, List.length_nil, szl, isa_int_non, isa_int_bl, isa_int_int, isa_int_str, isa_int_tup, isa_int_lst, isa_int_ro, isa_bool_non, isa_bool_bl, isa_bool_int, isa_bool_str, isa_bool_tup, isa_bool_lst, isa_bool_ro, isa_tuple_non, isa_tuple_bl, isa_tuple_int, isa_tuple_str, isa_tuple_tup, isa_tuple_lst, isa_tuple_ro, isa_list_non, isa_list_bl, isa_list_int, isa_list_str, isa_list_tup, isa_list_lst, isa_list_ro, isa_str_non, isa_str_bl, isa_str_int, isa_str_str, isa_str_tup, isa_str_lst, isa_str_ro, isl_non, isl_bl, isl_int, isl_str, isl_tup, isl_lst, isl_ro, Nat.zero_add, Nat.reduceAdd, Nat.reduceSub, Nat.reduceLeDiff, Nat.reduceLT, Nat.reducePow, Int.reduceNeg, decide_true, decide_false, Bool.not_true, Bool.not_false, Int.reduceToNat, Int.reducePow, Int.reduceAdd, Int.reduceSub, Int.reduceMul, nco, eq_self, Int.reduceEq, Int.reduceLT, Int.reduceLE, w_run1, w_run2, w_run3, fl_tup, fl_lst, ix_tup0, ix_tup1, Bool.false_eq_true, reduceCtorEq, ↓w_comp0, ↓w_comp1, wipe0, wipe1, fall_lst, bools0, bools1, Option.map_some, List.all_cons, List.all_nil, id, Bool.and_true, Bool.and_false, Bool.true_and, Bool.false_and, ↓t_rt, ↓t_nx, t_rt, t_nx, kz_int, kz_div, kz_isn0, kz_isn1, kz_isn2, kz_isn3, w_raise0, kz_isl1, kz_isl2, kz_isl3, kz_isb1, fr_t, fr_l, gfl_lst])
    refine wp_frac h (by omega) fun a b c1 t1 b0 sa sb h1 => ?_
    (try simp only [↓w_ok, ↓w_exc, ↓w_bad, ↓w_bnd, ↓w_ret, ↓w_badm, ↓w_lift, ↓o_some, ↓o_none, ↓o_map, ↓o_ite, ↓c_true, ↓b_true, ↓b_false, ↓f_nx, ↓f_rt, ↓f_bk, ↓f_ct, ↓f_ex, ↓w_var, ↓w_c, ↓w_c2, ↓w_c1, ↓w_cN, ↓w_nil, ↓w_cons, ↓w_tup, ↓w_lst, ↓w_frz, ↓w_own, ↓w_call, ↓w_no, ↓w_part, ↓w_sl, ↓w_tB, ↓w_tAnd, ↓w_tOr, ↓w_tNot, ↓w_tYes, ↓w_vAnd, ↓w_vOr, ↓w_vNot, ↓w_if, ↓w_pNil, ↓w_pCons, ↓w_dict, ↓w_lc, ↓w_iSeq, ↓w_iRng, ↓w_next, ↓w_seq, ↓w_do, ↓w_sret, ↓w_sretN, ↓w_drop, ↓w_sif, ↓w_brk, ↓w_cnt, ↓w_asg, ↓w_nm, ↓w_gnil, ↓w_gcons, ↓w_gseq, ↓w_gsub, ↓w_par, ↓w_for, ↓w_dput, ↓w_app, ↓l_nx, ↓l_ct, ↓l_bk, ↓l_rt, ↓l_ex, ↓w_loop0, ↓w_run1, ↓w_run2, ↓w_run3, ↓e_rt, ↓e_nx, ↓e_ex, e_rt, e_nx, e_ex, l_nx, l_ct, l_bk, l_rt, l_ex, k_add, k_sub, k_mul, k_div, k_mod, k_pow, k_neg, k_cmp, k_eqi, k_nei, k_divmod, k_gcd, k_abs, i_tup, i_lst, i_ro, lo_lst, st_lst, st_ro, st_tup, o_some, o_none, o_map, o_ite, c_true, b_true, b_false, f_nx, f_rt, f_bk, f_ct, f_ex, boolD_bl, intD_int, two_two, w_ok, bx_turn, bx_cells, bx_put, bx_lenc, bx_ix, bx_sub, List.getElem?_cons_zero, List.getElem?_cons_succ, List.getElem?_nil, List.set_cons_zero, List.set_cons_succ, List.map_cons, List.map_nil, List.replicate_succ, List.replicate_zero, List.cons_append, List.nil_append, List.length_cons, List.length_nil, szl, isa_int_non, isa_int_bl, isa_int_int, isa_int_str, isa_int_tup, isa_int_lst, isa_int_ro, isa_bool_non, isa_bool_bl, isa_bool_int, isa_bool_str, isa_bool_tup, isa_bool_lst, isa_bool_ro, isa_tuple_non, isa_tuple_bl, isa_tuple_int, isa_tuple_str, isa_tuple_tup, isa_tuple_lst, isa_tuple_ro, isa_list_non, isa_list_bl, isa_list_int, isa_list_str, isa_list_tup, isa_list_lst, isa_list_ro, isa_str_non, isa_str_bl, isa_str_int, isa_str_str, isa_str_tup, isa_str_lst, isa_str_ro, isl_non, isl_bl, isl_int, isl_str, isl_tup, isl_lst, isl_ro, Nat.zero_add, Nat.reduceAdd, Nat.reduceSub, Nat.reduceLeDiff, Nat.reduceLT, Nat.reducePow, Int.reduceNeg, decide_true, decide_false, Bool.not_true, Bool.not_false, Int.reduceToNat, Int.reducePow, Int.reduceAdd, Int.reduceSub, Int.reduceMul, nco, eq_self, Int.reduceEq, Int.reduceLT, Int.reduceLE, w_run1, w_run2, w_run3, fl_tup, fl_lst, ix_tup0, ix_tup1, Bool.false_eq_true, reduceCtorEq, ↓w_comp0, ↓w_comp1, wipe0, wipe1, fall_lst, bools0, bools1, Option.map_some, List.all_cons, List.all_nil, id, Bool.and_true, Bool.and_false, Bool.true_and, Bool.false_and, ↓t_rt, ↓t_nx, t_rt, t_nx, kz_int, kz_div, kz_isn0, kz_isn1, kz_isn2, kz_isn3, w_raise0, kz_isl1, kz_isl2, kz_isl3, kz_isb1, fr_t, fr_l, gfl_lst])
    refine wp_frac h1 (by omega) fun c d c2 t2 d0 sc sd h2 => ?_
    (try simp only [↓w_ok, ↓w_exc, ↓w_bad, ↓w_bnd, ↓w_ret, ↓w_badm, ↓w_lift, ↓o_some, ↓o_none, ↓o_map, ↓o_ite, ↓c_true, ↓b_true, ↓b_false, ↓f_nx, ↓f_rt, ↓f_bk, ↓f_ct, ↓f_ex, ↓w_var, ↓w_c, ↓w_c2, ↓w_c1, ↓w_cN, ↓w_nil, ↓w_cons, ↓w_tup, ↓w_lst, ↓w_frz, ↓w_own, ↓w_call, ↓w_no, ↓w_part, ↓w_sl, ↓w_tB, ↓w_tAnd, ↓w_tOr, ↓w_tNot, ↓w_tYes, ↓w_vAnd, ↓w_vOr, ↓w_vNot, ↓w_if, ↓w_pNil, ↓w_pCons, ↓w_dict, ↓w_lc, ↓w_iSeq, ↓w_iRng, ↓w_next, ↓w_seq, ↓w_do, ↓w_sret, ↓w_sretN, ↓w_drop, ↓w_sif, ↓w_brk, ↓w_cnt, ↓w_asg, ↓w_nm, ↓w_gnil, ↓w_gcons, ↓w_gseq, ↓w_gsub, ↓w_par, ↓w_for, ↓w_dput, ↓w_app, ↓l_nx, ↓l_ct, ↓l_bk, ↓l_rt, ↓l_ex, ↓w_loop0, ↓w_run1, ↓w_run2, ↓w_run3, ↓e_rt, ↓e_nx, ↓e_ex, e_rt, e_nx, e_ex, l_nx, l_ct, l_bk, l_rt, l_ex, k_add, k_sub, k_mul, k_div, k_mod, k_pow, k_neg, k_cmp, k_eqi, k_nei, k_divmod, k_gcd, k_abs, i_tup, i_lst, i_ro, lo_lst, st_lst, st_ro, st_tup, o_some, o_none, o_map, o_ite, c_true, b_true, b_false, f_nx, f_rt, f_bk, f_ct, f_ex, boolD_bl, intD_int, two_two, w_ok, bx_turn, bx_cells, bx_put, bx_lenc, bx_ix, bx_sub, List.getElem?_cons_zero, List.getElem?_cons_succ, List.getElem?_nil, List.set_cons_zero, List.set_cons_succ, List.map_cons, List.map_nil, List.replicate_succ, List.replicate_zero, List.cons_append, List.nil_append, List.length_cons, List.length_nil, szl, isa_int_non, isa_int_bl, isa_int_int, isa_int_str, isa_int_tup, isa_int_lst, isa_int_ro, isa_bool_non, isa_bool_bl, isa_bool_int, isa_bool_str, isa_bool_tup, isa_bool_lst, isa_bool_ro, isa_tuple_non, isa_tuple_bl, isa_tuple_int, isa_tuple_str, isa_tuple_tup, isa_tuple_lst, isa_tuple_ro, isa_list_non, isa_list_bl, isa_list_int, isa_list_str, isa_list_tup, isa_list_lst, isa_list_ro, isa_str_non, isa_str_bl, isa_str_int, isa_str_str, isa_str_tup, isa_str_lst, isa_str_ro, isl_non, isl_bl, isl_int, isl_str, isl_tup, isl_lst, isl_ro, Nat.zero_add, Nat.reduceAdd, Nat.reduceSub, Nat.reduceLeDiff, Nat.reduceLT, Nat.reducePow, Int.reduceNeg, decide_true, decide_false, Bool.not_true, Bool.not_false, Int.reduceToNat, Int.reducePow, Int.reduceAdd, Int.reduceSub, Int.reduceMul, nco, eq_self, Int.reduceEq, Int.reduceLT, Int.reduceLE, w_run1, w_run2, w_run3, fl_tup, fl_lst, ix_tup0, ix_tup1, Bool.false_eq_true, reduceCtorEq, ↓w_comp0, ↓w_comp1, wipe0, wipe1, fall_lst, bools0, bools1, Option.map_some, List.all_cons, List.all_nil, id, Bool.and_true, Bool.and_false, Bool.true_and, Bool.false_and, ↓t_rt, ↓t_nx, t_rt, t_nx, kz_int, kz_div, kz_isn0, kz_isn1, kz_isn2, kz_isn3, w_raise0, kz_isl1, kz_isl2, kz_isl3, kz_isb1, fr_t, fr_l, gfl_lst])
    refine wp_lneg ?_
    (try simp only [↓w_ok, ↓w_exc, ↓w_bad, ↓w_bnd, ↓w_ret, ↓w_badm, ↓w_lift, ↓o_some, ↓o_none, ↓o_map, ↓o_ite, ↓c_true, ↓b_true, ↓b_false, ↓f_nx, ↓f_rt, ↓f_bk, ↓f_ct, ↓f_ex, ↓w_var, ↓w_c, ↓w_c2, ↓w_c1, ↓w_cN, ↓w_nil, ↓w_cons, ↓w_tup, ↓w_lst, ↓w_frz, ↓w_own, ↓w_call, ↓w_no, ↓w_part, ↓w_sl, ↓w_tB, ↓w_tAnd, ↓w_tOr, ↓w_tNot, ↓w_tYes, ↓w_vAnd, ↓w_vOr, ↓w_vNot, ↓w_if, ↓w_pNil, ↓w_pCons, ↓w_dict, ↓w_lc, ↓w_iSeq, ↓w_iRng, ↓w_next, ↓w_seq, ↓w_do, ↓w_sret, ↓w_sretN, ↓w_drop, ↓w_sif, ↓w_brk, ↓w_cnt, ↓w_asg, ↓w_nm, ↓w_gnil, ↓w_gcons, ↓w_gseq, ↓w_gsub, ↓w_par, ↓w_for, ↓w_dput, ↓w_app, ↓l_nx, ↓l_ct, ↓l_bk, ↓l_rt, ↓l_ex, ↓w_loop0, ↓w_run1, ↓w_run2, ↓w_run3, ↓e_rt, ↓e_nx, ↓e_ex, e_rt, e_nx, e_ex, l_nx, l_ct, l_bk, l_rt, l_ex, k_add, k_sub, k_mul, k_div, k_mod, k_pow, k_neg, k_cmp, k_eqi, k_nei, k_divmod, k_gcd, k_abs, i_tup, i_lst, i_ro, lo_lst, st_lst, st_ro, st_tup, o_some, o_none, o_map, o_ite, c_true, b_true, b_false, f_nx, f_rt, f_bk, f_ct, f_ex, boolD_bl, intD_int, two_two, w_ok, bx_turn, bx_cells, bx_put, bx_lenc, bx_ix, bx_sub, List.getElem?_cons_zero, List.getElem?_cons_succ, List.getElem?_nil, List.set_cons_zero, List.set_cons_succ, List.map_cons, List.map_nil, List.replicate_succ, List.replicate_zero, List.cons_append, List.nil_append, List.length_cons, List.length_nil, szl, isa_int_non, isa_int_bl, isa_int_int, isa_int_str, isa_int_tup, isa_int_lst, isa_int_ro, isa_bool_non, isa_bool_bl, isa_bool_int, isa_bool_str, isa_bool_tup, isa_bool_lst, isa_bool_ro, isa_tuple_non, isa_tuple_bl, isa_tuple_int, isa_tuple_str, isa_tuple_tup, isa_tuple_lst, isa_tuple_ro, isa_list_non, isa_list_bl, isa_list_int, isa_list_str, isa_list_tup, isa_list_lst, isa_list_ro, isa_str_non, isa_str_bl, isa_str_int, isa_str_str, isa_str_tup, isa_str_lst, isa_str_ro, isl_non, isl_bl, isl_int, isl_str, isl_tup, isl_lst, isl_ro, Nat.zero_add, Nat.reduceAdd, Nat.reduceSub, Nat.reduceLeDiff, Nat.reduceLT, Nat.reducePow, Int.reduceNeg, decide_true, decide_false, Bool.not_true, Bool.not_false, Int.reduceToNat, Int.reducePow, Int.reduceAdd, Int.reduceSub, Int.reduceMul, nco, eq_self, Int.reduceEq, Int.reduceLT, Int.reduceLE, w_run1, w_run2, w_run3, fl_tup, fl_lst, ix_tup0, ix_tup1, Bool.false_eq_true, reduceCtorEq, ↓w_comp0, ↓w_comp1, wipe0, wipe1, fall_lst, bools0, bools1, Option.map_some, List.all_cons, List.all_nil, id, Bool.and_true, Bool.and_false, Bool.true_and, Bool.false_and, ↓t_rt, ↓t_nx, t_rt, t_nx, kz_int, kz_div, kz_isn0, kz_isn1, kz_isn2, kz_isn3, w_raise0, kz_isl1, kz_isl2, kz_isl3, kz_isb1, fr_t, fr_l, gfl_lst])
    refine take_ h2 (by omega) (by decide) (by decide) fun g c3 t3 h3 g0 g1 => ?_
    obtain ⟨x, hx, ex⟩ := pick_lst (st := bx e c3 t3 ++ []) (g := g) (xs := [.tup [.int c, .int d], .tup [.int a, .int b], .tup [.int 0, .int 1], .tup [.int (0 - a), .int b], .tup [.int c, .int d], .tup [.int c, .int d]]) (by omega) (by simp only [List.length_cons, List.length_nil]; omega)
    have hv : ∃ x0 y0, x = .tup [.int x0, .int y0] ∧ y0 ≠ 0 ∧ Sm x0 ∧ Sm y0 := by
      simp only [List.mem_cons, List.not_mem_nil, or_false] at hx
      have sn : Sm (0 - a) := by unfold Sm at *; omega
      rcases hx with rfl | rfl | rfl | rfl | rfl | rfl
      · exact ⟨_, _, rfl, d0, sc, sd⟩
      · exact ⟨_, _, rfl, b0, sa, sb⟩
      · exact ⟨_, _, rfl, by decide, by unfold Sm; decide, by unfold Sm; decide⟩
      · exact ⟨_, _, rfl, b0, sn, sb⟩
      · exact ⟨_, _, rfl, d0, sc, sd⟩
      · exact ⟨_, _, rfl, d0, sc, sd⟩
    obtain ⟨x0, y0, rfl, y1, sx, sy⟩ := hv
    (try simp only [↓w_ok, ↓w_exc, ↓w_bad, ↓w_bnd, ↓w_ret, ↓w_badm, ↓w_lift, ↓o_some, ↓o_none, ↓o_map, ↓o_ite, ↓c_true, ↓b_true, ↓b_false, ↓f_nx, ↓f_rt, ↓f_bk, ↓f_ct, ↓f_ex, ↓w_var, ↓w_c, ↓w_c2, ↓w_c1, ↓w_cN, ↓w_nil, ↓w_cons, ↓w_tup, ↓w_lst, ↓w_frz, ↓w_own, ↓w_call, ↓w_no, ↓w_part, ↓w_sl, ↓w_tB, ↓w_tAnd, ↓w_tOr, ↓w_tNot, ↓w_tYes, ↓w_vAnd, ↓w_vOr, ↓w_vNot, ↓w_if, ↓w_pNil, ↓w_pCons, ↓w_dict, ↓w_lc, ↓w_iSeq, ↓w_iRng, ↓w_next, ↓w_seq, ↓w_do, ↓w_sret, ↓w_sretN, ↓w_drop, ↓w_sif, ↓w_brk, ↓w_cnt, ↓w_asg, ↓w_nm, ↓w_gnil, ↓w_gcons, ↓w_gseq, ↓w_gsub, ↓w_par, ↓w_for, ↓w_dput, ↓w_app, ↓l_nx, ↓l_ct, ↓l_bk, ↓l_rt, ↓l_ex, ↓w_loop0, ↓w_run1, ↓w_run2, ↓w_run3, ↓e_rt, ↓e_nx, ↓e_ex, e_rt, e_nx, e_ex, l_nx, l_ct, l_bk, l_rt, l_ex, k_add, k_sub, k_mul, k_div, k_mod, k_pow, k_neg, k_cmp, k_eqi, k_nei, k_divmod, k_gcd, k_abs, i_tup, i_lst, i_ro, lo_lst, st_lst, st_ro, st_tup, o_some, o_none, o_map, o_ite, c_true, b_true, b_false, f_nx, f_rt, f_bk, f_ct, f_ex, boolD_bl, intD_int, two_two, w_ok, bx_turn, bx_cells, bx_put, bx_lenc, bx_ix, bx_sub, List.getElem?_cons_zero, List.getElem?_cons_succ, List.getElem?_nil, List.set_cons_zero, List.set_cons_succ, List.map_cons, List.map_nil, List.replicate_succ, List.replicate_zero, List.cons_append, List.nil_append, List.length_cons, List.length_nil, szl, isa_int_non, isa_int_bl, isa_int_int, isa_int_str, isa_int_tup, isa_int_lst, isa_int_ro, isa_bool_non, isa_bool_bl, isa_bool_int, isa_bool_str, isa_bool_tup, isa_bool_lst, isa_bool_ro, isa_tuple_non, isa_tuple_bl, isa_tuple_int, isa_tuple_str, isa_tuple_tup, isa_tuple_lst, isa_tuple_ro, isa_list_non, isa_list_bl, isa_list_int, isa_list_str, isa_list_tup, isa_list_lst, isa_list_ro, isa_str_non, isa_str_bl, isa_str_int, isa_str_str, isa_str_tup, isa_str_lst, isa_str_ro, isl_non, isl_bl, isl_int, isl_str, isl_tup, isl_lst, isl_ro, Nat.zero_add, Nat.reduceAdd, Nat.reduceSub, Nat.reduceLeDiff, Nat.reduceLT, Nat.reducePow, Int.reduceNeg, decide_true, decide_false, Bool.not_true, Bool.not_false, Int.reduceToNat, Int.reducePow, Int.reduceAdd, Int.reduceSub, Int.reduceMul, nco, eq_self, Int.reduceEq, Int.reduceLT, Int.reduceLE, w_run1, w_run2, w_run3, fl_tup, fl_lst, ix_tup0, ix_tup1, Bool.false_eq_true, reduceCtorEq, ↓w_comp0, ↓w_comp1, wipe0, wipe1, fall_lst, bools0, bools1, Option.map_some, List.all_cons, List.all_nil, id, Bool.and_true, Bool.and_false, Bool.true_and, Bool.false_and, ↓t_rt, ↓t_nx, t_rt, t_nx, kz_int, kz_div, kz_isn0, kz_isn1, kz_isn2, kz_isn3, w_raise0, kz_isl1, kz_isl2, kz_isl3, kz_isb1, fr_t, fr_l, gfl_lst])
    refine wo_i ex ?_
    (try simp only [↓w_ok, ↓w_exc, ↓w_bad, ↓w_bnd, ↓w_ret, ↓w_badm, ↓w_lift, ↓o_some, ↓o_none, ↓o_map, ↓o_ite, ↓c_true, ↓b_true, ↓b_false, ↓f_nx, ↓f_rt, ↓f_bk, ↓f_ct, ↓f_ex, ↓w_var, ↓w_c, ↓w_c2, ↓w_c1, ↓w_cN, ↓w_nil, ↓w_cons, ↓w_tup, ↓w_lst, ↓w_frz, ↓w_own, ↓w_call, ↓w_no, ↓w_part, ↓w_sl, ↓w_tB, ↓w_tAnd, ↓w_tOr, ↓w_tNot, ↓w_tYes, ↓w_vAnd, ↓w_vOr, ↓w_vNot, ↓w_if, ↓w_pNil, ↓w_pCons, ↓w_dict, ↓w_lc, ↓w_iSeq, ↓w_iRng, ↓w_next, ↓w_seq, ↓w_do, ↓w_sret, ↓w_sretN, ↓w_drop, ↓w_sif, ↓w_brk, ↓w_cnt, ↓w_asg, ↓w_nm, ↓w_gnil, ↓w_gcons, ↓w_gseq, ↓w_gsub, ↓w_par, ↓w_for, ↓w_dput, ↓w_app, ↓l_nx, ↓l_ct, ↓l_bk, ↓l_rt, ↓l_ex, ↓w_loop0, ↓w_run1, ↓w_run2, ↓w_run3, ↓e_rt, ↓e_nx, ↓e_ex, e_rt, e_nx, e_ex, l_nx, l_ct, l_bk, l_rt, l_ex, k_add, k_sub, k_mul, k_div, k_mod, k_pow, k_neg, k_cmp, k_eqi, k_nei, k_divmod, k_gcd, k_abs, i_tup, i_lst, i_ro, lo_lst, st_lst, st_ro, st_tup, o_some, o_none, o_map, o_ite, c_true, b_true, b_false, f_nx, f_rt, f_bk, f_ct, f_ex, boolD_bl, intD_int, two_two, w_ok, bx_turn, bx_cells, bx_put, bx_lenc, bx_ix, bx_sub, List.getElem?_cons_zero, List.getElem?_cons_succ, List.getElem?_nil, List.set_cons_zero, List.set_cons_succ, List.map_cons, List.map_nil, List.replicate_succ, List.replicate_zero, List.cons_append, List.nil_append, List.length_cons, List.length_nil, szl, isa_int_non, isa_int_bl, isa_int_int, isa_int_str, isa_int_tup, isa_int_lst, isa_int_ro, isa_bool_non, isa_bool_bl, isa_bool_int, isa_bool_str, isa_bool_tup, isa_bool_lst, isa_bool_ro, isa_tuple_non, isa_tuple_bl, isa_tuple_int, isa_tuple_str, isa_tuple_tup, isa_tuple_lst, isa_tuple_ro, isa_list_non, isa_list_bl, isa_list_int, isa_list_str, isa_list_tup, isa_list_lst, isa_list_ro, isa_str_non, isa_str_bl, isa_str_int, isa_str_str, isa_str_tup, isa_str_lst, isa_str_ro, isl_non, isl_bl, isl_int, isl_str, isl_tup, isl_lst, isl_ro, Nat.zero_add, Nat.reduceAdd, Nat.reduceSub, Nat.reduceLeDiff, Nat.reduceLT, Nat.reducePow, Int.reduceNeg, decide_true, decide_false, Bool.not_true, Bool.not_false, Int.reduceToNat, Int.reducePow, Int.reduceAdd, Int.reduceSub, Int.reduceMul, nco, eq_self, Int.reduceEq, Int.reduceLT, Int.reduceLE, w_run1, w_run2, w_run3, fl_tup, fl_lst, ix_tup0, ix_tup1, Bool.false_eq_true, reduceCtorEq, ↓w_comp0, ↓w_comp1, wipe0, wipe1, fall_lst, bools0, bools1, Option.map_some, List.all_cons, List.all_nil, id, Bool.and_true, Bool.and_false, Bool.true_and, Bool.false_and, ↓t_rt, ↓t_nx, t_rt, t_nx, kz_int, kz_div, kz_isn0, kz_isn1, kz_isn2, kz_isn3, w_raise0, kz_isl1, kz_isl2, kz_isl3, kz_isb1, fr_t, fr_l, gfl_lst])
    refine wp_pair sa.lt sb.lt sx.lt sy.lt b0 y1 ?_
    (try simp only [↓w_ok, ↓w_exc, ↓w_bad, ↓w_bnd, ↓w_ret, ↓w_badm, ↓w_lift, ↓o_some, ↓o_none, ↓o_map, ↓o_ite, ↓c_true, ↓b_true, ↓b_false, ↓f_nx, ↓f_rt, ↓f_bk, ↓f_ct, ↓f_ex, ↓w_var, ↓w_c, ↓w_c2, ↓w_c1, ↓w_cN, ↓w_nil, ↓w_cons, ↓w_tup, ↓w_lst, ↓w_frz, ↓w_own, ↓w_call, ↓w_no, ↓w_part, ↓w_sl, ↓w_tB, ↓w_tAnd, ↓w_tOr, ↓w_tNot, ↓w_tYes, ↓w_vAnd, ↓w_vOr, ↓w_vNot, ↓w_if, ↓w_pNil, ↓w_pCons, ↓w_dict, ↓w_lc, ↓w_iSeq, ↓w_iRng, ↓w_next, ↓w_seq, ↓w_do, ↓w_sret, ↓w_sretN, ↓w_drop, ↓w_sif, ↓w_brk, ↓w_cnt, ↓w_asg, ↓w_nm, ↓w_gnil, ↓w_gcons, ↓w_gseq, ↓w_gsub, ↓w_par, ↓w_for, ↓w_dput, ↓w_app, ↓l_nx, ↓l_ct, ↓l_bk, ↓l_rt, ↓l_ex, ↓w_loop0, ↓w_run1, ↓w_run2, ↓w_run3, ↓e_rt, ↓e_nx, ↓e_ex, e_rt, e_nx, e_ex, l_nx, l_ct, l_bk, l_rt, l_ex, k_add, k_sub, k_mul, k_div, k_mod, k_pow, k_neg, k_cmp, k_eqi, k_nei, k_divmod, k_gcd, k_abs, i_tup, i_lst, i_ro, lo_lst, st_lst, st_ro, st_tup, o_some, o_none, o_map, o_ite, c_true, b_true, b_false, f_nx, f_rt, f_bk, f_ct, f_ex, boolD_bl, intD_int, two_two, w_ok, bx_turn, bx_cells, bx_put, bx_lenc, bx_ix, bx_sub, List.getElem?_cons_zero, List.getElem?_cons_succ, List.getElem?_nil, List.set_cons_zero, List.set_cons_succ, List.map_cons, List.map_nil, List.replicate_succ, List.replicate_zero, List.cons_append, List.nil_append, List.length_cons, List.length_nil, szl, isa_int_non, isa_int_bl, isa_int_int, isa_int_str, isa_int_tup, isa_int_lst, isa_int_ro, isa_bool_non, isa_bool_bl, isa_bool_int, isa_bool_str, isa_bool_tup, isa_bool_lst, isa_bool_ro, isa_tuple_non, isa_tuple_bl, isa_tuple_int, isa_tuple_str, isa_tuple_tup, isa_tuple_lst, isa_tuple_ro, isa_list_non, isa_list_bl, isa_list_int, isa_list_str, isa_list_tup, isa_list_lst, isa_list_ro, isa_str_non, isa_str_bl, isa_str_int, isa_str_str, isa_str_tup, isa_str_lst, isa_str_ro, isl_non, isl_bl, isl_int, isl_str, isl_tup, isl_lst, isl_ro, Nat.zero_add, Nat.reduceAdd, Nat.reduceSub, Nat.reduceLeDiff, Nat.reduceLT, Nat.reducePow, Int.reduceNeg, decide_true, decide_false, Bool.not_true, Bool.not_false, Int.reduceToNat, Int.reducePow, Int.reduceAdd, Int.reduceSub, Int.reduceMul, nco, eq_self, Int.reduceEq, Int.reduceLT, Int.reduceLE, w_run1, w_run2, w_run3, fl_tup, fl_lst, ix_tup0, ix_tup1, Bool.false_eq_true, reduceCtorEq, ↓w_comp0, ↓w_comp1, wipe0, wipe1, fall_lst, bools0, bools1, Option.map_some, List.all_cons, List.all_nil, id, Bool.and_true, Bool.and_false, Bool.true_and, Bool.false_and, ↓t_rt, ↓t_nx, t_rt, t_nx, kz_int, kz_div, kz_isn0, kz_isn1, kz_isn2, kz_isn3, w_raise0, kz_isl1, kz_isl2, kz_isl3, kz_isb1, fr_t, fr_l, gfl_lst])
    refine wp_pair sx.lt sy.lt sa.lt sb.lt y1 b0 ?_
    (try simp only [↓w_ok, ↓w_exc, ↓w_bad, ↓w_bnd, ↓w_ret, ↓w_badm, ↓w_lift, ↓o_some, ↓o_none, ↓o_map, ↓o_ite, ↓c_true, ↓b_true, ↓b_false, ↓f_nx, ↓f_rt, ↓f_bk, ↓f_ct, ↓f_ex, ↓w_var, ↓w_c, ↓w_c2, ↓w_c1, ↓w_cN, ↓w_nil, ↓w_cons, ↓w_tup, ↓w_lst, ↓w_frz, ↓w_own, ↓w_call, ↓w_no, ↓w_part, ↓w_sl, ↓w_tB, ↓w_tAnd, ↓w_tOr, ↓w_tNot, ↓w_tYes, ↓w_vAnd, ↓w_vOr, ↓w_vNot, ↓w_if, ↓w_pNil, ↓w_pCons, ↓w_dict, ↓w_lc, ↓w_iSeq, ↓w_iRng, ↓w_next, ↓w_seq, ↓w_do, ↓w_sret, ↓w_sretN, ↓w_drop, ↓w_sif, ↓w_brk, ↓w_cnt, ↓w_asg, ↓w_nm, ↓w_gnil, ↓w_gcons, ↓w_gseq, ↓w_gsub, ↓w_par, ↓w_for, ↓w_dput, ↓w_app, ↓l_nx, ↓l_ct, ↓l_bk, ↓l_rt, ↓l_ex, ↓w_loop0, ↓w_run1, ↓w_run2, ↓w_run3, ↓e_rt, ↓e_nx, ↓e_ex, e_rt, e_nx, e_ex, l_nx, l_ct, l_bk, l_rt, l_ex, k_add, k_sub, k_mul, k_div, k_mod, k_pow, k_neg, k_cmp, k_eqi, k_nei, k_divmod, k_gcd, k_abs, i_tup, i_lst, i_ro, lo_lst, st_lst, st_ro, st_tup, o_some, o_none, o_map, o_ite, c_true, b_true, b_false, f_nx, f_rt, f_bk, f_ct, f_ex, boolD_bl, intD_int, two_two, w_ok, bx_turn, bx_cells, bx_put, bx_lenc, bx_ix, bx_sub, List.getElem?_cons_zero, List.getElem?_cons_succ, List.getElem?_nil, List.set_cons_zero, List.set_cons_succ, List.map_cons, List.map_nil, List.replicate_succ, List.replicate_zero, List.cons_append, List.nil_append, List.length_cons, List.length_nil, szl, isa_int_non, isa_int_bl, isa_int_int, isa_int_str, isa_int_tup, isa_int_lst, isa_int_ro, isa_bool_non, isa_bool_bl, isa_bool_int, isa_bool_str, isa_bool_tup, isa_bool_lst, isa_bool_ro, isa_tuple_non, isa_tuple_bl, isa_tuple_int, isa_tuple_str, isa_tuple_tup, isa_tuple_lst, isa_tuple_ro, isa_list_non, isa_list_bl, isa_list_int, isa_list_str, isa_list_tup, isa_list_lst, isa_list_ro, isa_str_non, isa_str_bl, isa_str_int, isa_str_str, isa_str_tup, isa_str_lst, isa_str_ro, isl_non, isl_bl, isl_int, isl_str, isl_tup, isl_lst, isl_ro, Nat.zero_add, Nat.reduceAdd, Nat.reduceSub, Nat.reduceLeDiff, Nat.reduceLT, Nat.reducePow, Int.reduceNeg, decide_true, decide_false, Bool.not_true, Bool.not_false, Int.reduceToNat, Int.reducePow, Int.reduceAdd, Int.reduceSub, Int.reduceMul, nco, eq_self, Int.reduceEq, Int.reduceLT, Int.reduceLE, w_run1, w_run2, w_run3, fl_tup, fl_lst, ix_tup0, ix_tup1, Bool.false_eq_true, reduceCtorEq, ↓w_comp0, ↓w_comp1, wipe0, wipe1, fall_lst, bools0, bools1, Option.map_some, List.all_cons, List.all_nil, id, Bool.and_true, Bool.and_false, Bool.true_and, Bool.false_and, ↓t_rt, ↓t_nx, t_rt, t_nx, kz_int, kz_div, kz_isn0, kz_isn1, kz_isn2, kz_isn3, w_raise0, kz_isl1, kz_isl2, kz_isl3, kz_isb1, fr_t, fr_l, gfl_lst])
    refine take_ h3 (by omega) (by decide) (by decide) fun g2 c4 t4 h4 m0 m1 => ?_
    (try simp only [↓w_ok, ↓w_exc, ↓w_bad, ↓w_bnd, ↓w_ret, ↓w_badm, ↓w_lift, ↓o_some, ↓o_none, ↓o_map, ↓o_ite, ↓c_true, ↓b_true, ↓b_false, ↓f_nx, ↓f_rt, ↓f_bk, ↓f_ct, ↓f_ex, ↓w_var, ↓w_c, ↓w_c2, ↓w_c1, ↓w_cN, ↓w_nil, ↓w_cons, ↓w_tup, ↓w_lst, ↓w_frz, ↓w_own, ↓w_call, ↓w_no, ↓w_part, ↓w_sl, ↓w_tB, ↓w_tAnd, ↓w_tOr, ↓w_tNot, ↓w_tYes, ↓w_vAnd, ↓w_vOr, ↓w_vNot, ↓w_if, ↓w_pNil, ↓w_pCons, ↓w_dict, ↓w_lc, ↓w_iSeq, ↓w_iRng, ↓w_next, ↓w_seq, ↓w_do, ↓w_sret, ↓w_sretN, ↓w_drop, ↓w_sif, ↓w_brk, ↓w_cnt, ↓w_asg, ↓w_nm, ↓w_gnil, ↓w_gcons, ↓w_gseq, ↓w_gsub, ↓w_par, ↓w_for, ↓w_dput, ↓w_app, ↓l_nx, ↓l_ct, ↓l_bk, ↓l_rt, ↓l_ex, ↓w_loop0, ↓w_run1, ↓w_run2, ↓w_run3, ↓e_rt, ↓e_nx, ↓e_ex, e_rt, e_nx, e_ex, l_nx, l_ct, l_bk, l_rt, l_ex, k_add, k_sub, k_mul, k_div, k_mod, k_pow, k_neg, k_cmp, k_eqi, k_nei, k_divmod, k_gcd, k_abs, i_tup, i_lst, i_ro, lo_lst, st_lst, st_ro, st_tup, o_some, o_none, o_map, o_ite, c_true, b_true, b_false, f_nx, f_rt, f_bk, f_ct, f_ex, boolD_bl, intD_int, two_two, w_ok, bx_turn, bx_cells, bx_put, bx_lenc, bx_ix, bx_sub, List.getElem?_cons_zero, List.getElem?_cons_succ, List.getElem?_nil, List.set_cons_zero, List.set_cons_succ, List.map_cons, List.map_nil, List.replicate_succ, List.replicate_zero, List.cons_append, List.nil_append, List.length_cons, List.length_nil, szl, isa_int_non, isa_int_bl, isa_int_int, isa_int_str, isa_int_tup, isa_int_lst, isa_int_ro, isa_bool_non, isa_bool_bl, isa_bool_int, isa_bool_str, isa_bool_tup, isa_bool_lst, isa_bool_ro, isa_tuple_non, isa_tuple_bl, isa_tuple_int, isa_tuple_str, isa_tuple_tup, isa_tuple_lst, isa_tuple_ro, isa_list_non, isa_list_bl, isa_list_int, isa_list_str, isa_list_tup, isa_list_lst, isa_list_ro, isa_str_non, isa_str_bl, isa_str_int, isa_str_str, isa_str_tup, isa_str_lst, isa_str_ro, isl_non, isl_bl, isl_int, isl_str, isl_tup, isl_lst, isl_ro, Nat.zero_add, Nat.reduceAdd, Nat.reduceSub, Nat.reduceLeDiff, Nat.reduceLT, Nat.reducePow, Int.reduceNeg, decide_true, decide_false, Bool.not_true, Bool.not_false, Int.reduceToNat, Int.reducePow, Int.reduceAdd, Int.reduceSub, Int.reduceMul, nco, eq_self, Int.reduceEq, Int.reduceLT, Int.reduceLE, w_run1, w_run2, w_run3, fl_tup, fl_lst, ix_tup0, ix_tup1, Bool.false_eq_true, reduceCtorEq, ↓w_comp0, ↓w_comp1, wipe0, wipe1, fall_lst, bools0, bools1, Option.map_some, List.all_cons, List.all_nil, id, Bool.and_true, Bool.and_false, Bool.true_and, Bool.false_and, ↓t_rt, ↓t_nx, t_rt, t_nx, kz_int, kz_div, kz_isn0, kz_isn1, kz_isn2, kz_isn3, w_raise0, kz_isl1, kz_isl2, kz_isl3, kz_isb1, fr_t, fr_l, gfl_lst])
    refine take_ h4 (by omega) (by decide) (by decide) fun g3 c5 t5 h5 n0 n1 => ?_
    (try simp only [↓w_ok, ↓w_exc, ↓w_bad, ↓w_bnd, ↓w_ret, ↓w_badm, ↓w_lift, ↓o_some, ↓o_none, ↓o_map, ↓o_ite, ↓c_true, ↓b_true, ↓b_false, ↓f_nx, ↓f_rt, ↓f_bk, ↓f_ct, ↓f_ex, ↓w_var, ↓w_c, ↓w_c2, ↓w_c1, ↓w_cN, ↓w_nil, ↓w_cons, ↓w_tup, ↓w_lst, ↓w_frz, ↓w_own, ↓w_call, ↓w_no, ↓w_part, ↓w_sl, ↓w_tB, ↓w_tAnd, ↓w_tOr, ↓w_tNot, ↓w_tYes, ↓w_vAnd, ↓w_vOr, ↓w_vNot, ↓w_if, ↓w_pNil, ↓w_pCons, ↓w_dict, ↓w_lc, ↓w_iSeq, ↓w_iRng, ↓w_next, ↓w_seq, ↓w_do, ↓w_sret, ↓w_sretN, ↓w_drop, ↓w_sif, ↓w_brk, ↓w_cnt, ↓w_asg, ↓w_nm, ↓w_gnil, ↓w_gcons, ↓w_gseq, ↓w_gsub, ↓w_par, ↓w_for, ↓w_dput, ↓w_app, ↓l_nx, ↓l_ct, ↓l_bk, ↓l_rt, ↓l_ex, ↓w_loop0, ↓w_run1, ↓w_run2, ↓w_run3, ↓e_rt, ↓e_nx, ↓e_ex, e_rt, e_nx, e_ex, l_nx, l_ct, l_bk, l_rt, l_ex, k_add, k_sub, k_mul, k_div, k_mod, k_pow, k_neg, k_cmp, k_eqi, k_nei, k_divmod, k_gcd, k_abs, i_tup, i_lst, i_ro, lo_lst, st_lst, st_ro, st_tup, o_some, o_none, o_map, o_ite, c_true, b_true, b_false, f_nx, f_rt, f_bk, f_ct, f_ex, boolD_bl, intD_int, two_two, w_ok, bx_turn, bx_cells, bx_put, bx_lenc, bx_ix, bx_sub, List.getElem?_cons_zero, List.getElem?_cons_succ, List.getElem?_nil, List.set_cons_zero, List.set_cons_succ, List.map_cons, List.map_nil, List.replicate_succ, List.replicate_zero, List.cons_append, List.nil_append, List.length_cons, List.length_nil, szl, isa_int_non, isa_int_bl, isa_int_int, isa_int_str, isa_int_tup, isa_int_lst, isa_int_ro, isa_bool_non, isa_bool_bl, isa_bool_int, isa_bool_str, isa_bool_tup, isa_bool_lst, isa_bool_ro, isa_tuple_non, isa_tuple_bl, isa_tuple_int, isa_tuple_str, isa_tuple_tup, isa_tuple_lst, isa_tuple_ro, isa_list_non, isa_list_bl, isa_list_int, isa_list_str, isa_list_tup, isa_list_lst, isa_list_ro, isa_str_non, isa_str_bl, isa_str_int, isa_str_str, isa_str_tup, isa_str_lst, isa_str_ro, isl_non, isl_bl, isl_int, isl_str, isl_tup, isl_lst, isl_ro, Nat.zero_add, Nat.reduceAdd, Nat.reduceSub, Nat.reduceLeDiff, Nat.reduceLT, Nat.reducePow, Int.reduceNeg, decide_true, decide_false, Bool.not_true, Bool.not_false, Int.reduceToNat, Int.reducePow, Int.reduceAdd, Int.reduceSub, Int.reduceMul, nco, eq_self, Int.reduceEq, Int.reduceLT, Int.reduceLE, w_run1, w_run2, w_run3, fl_tup, fl_lst, ix_tup0, ix_tup1, Bool.false_eq_true, reduceCtorEq, ↓w_comp0, ↓w_comp1, wipe0, wipe1, fall_lst, bools0, bools1, Option.map_some, List.all_cons, List.all_nil, id, Bool.and_true, Bool.and_false, Bool.true_and, Bool.false_and, ↓t_rt, ↓t_nx, t_rt, t_nx, kz_int, kz_div, kz_isn0, kz_isn1, kz_isn2, kz_isn3, w_raise0, kz_isl1, kz_isl2, kz_isl3, kz_isb1, fr_t, fr_l, gfl_lst])
    have st : Sm (g2 - 120) := by unfold Sm; omega
    have sb2 : Sm (g3 - 60) := by unfold Sm; omega
    refine wb_i (fun hb => ?_) (fun hb => ?_)
    · (try simp only [↓w_ok, ↓w_exc, ↓w_bad, ↓w_bnd, ↓w_ret, ↓w_badm, ↓w_lift, ↓o_some, ↓o_none, ↓o_map, ↓o_ite, ↓c_true, ↓b_true, ↓b_false, ↓f_nx, ↓f_rt, ↓f_bk, ↓f_ct, ↓f_ex, ↓w_var, ↓w_c, ↓w_c2, ↓w_c1, ↓w_cN, ↓w_nil, ↓w_cons, ↓w_tup, ↓w_lst, ↓w_frz, ↓w_own, ↓w_call, ↓w_no, ↓w_part, ↓w_sl, ↓w_tB, ↓w_tAnd, ↓w_tOr, ↓w_tNot, ↓w_tYes, ↓w_vAnd, ↓w_vOr, ↓w_vNot, ↓w_if, ↓w_pNil, ↓w_pCons, ↓w_dict, ↓w_lc, ↓w_iSeq, ↓w_iRng, ↓w_next, ↓w_seq, ↓w_do, ↓w_sret, ↓w_sretN, ↓w_drop, ↓w_sif, ↓w_brk, ↓w_cnt, ↓w_asg, ↓w_nm, ↓w_gnil, ↓w_gcons, ↓w_gseq, ↓w_gsub, ↓w_par, ↓w_for, ↓w_dput, ↓w_app, ↓l_nx, ↓l_ct, ↓l_bk, ↓l_rt, ↓l_ex, ↓w_loop0, ↓w_run1, ↓w_run2, ↓w_run3, ↓e_rt, ↓e_nx, ↓e_ex, e_rt, e_nx, e_ex, l_nx, l_ct, l_bk, l_rt, l_ex, k_add, k_sub, k_mul, k_div, k_mod, k_pow, k_neg, k_cmp, k_eqi, k_nei, k_divmod, k_gcd, k_abs, i_tup, i_lst, i_ro, lo_lst, st_lst, st_ro, st_tup, o_some, o_none, o_map, o_ite, c_true, b_true, b_false, f_nx, f_rt, f_bk, f_ct, f_ex, boolD_bl, intD_int, two_two, w_ok, bx_turn, bx_cells, bx_put, bx_lenc, bx_ix, bx_sub, List.getElem?_cons_zero, List.getElem?_cons_succ, List.getElem?_nil, List.set_cons_zero, List.set_cons_succ, List.map_cons, List.map_nil, List.replicate_succ, List.replicate_zero, List.cons_append, List.nil_append, List.length_cons, List.length_nil, szl, isa_int_non, isa_int_bl, isa_int_int, isa_int_str, isa_int_tup, isa_int_lst, isa_int_ro, isa_bool_non, isa_bool_bl, isa_bool_int, isa_bool_str, isa_bool_tup, isa_bool_lst, isa_bool_ro, isa_tuple_non, isa_tuple_bl, isa_tuple_int, isa_tuple_str, isa_tuple_tup, isa_tuple_lst, isa_tuple_ro, isa_list_non, isa_list_bl, isa_list_int, isa_list_str, isa_list_tup, isa_list_lst, isa_list_ro, isa_str_non, isa_str_bl, isa_str_int, isa_str_str, isa_str_tup, isa_str_lst, isa_str_ro, isl_non, isl_bl, isl_int, isl_str, isl_tup, isl_lst, isl_ro, Nat.zero_add, Nat.reduceAdd, Nat.reduceSub, Nat.reduceLeDiff, Nat.reduceLT, Nat.reducePow, Int.reduceNeg, decide_true, decide_false, Bool.not_true, Bool.not_false, Int.reduceToNat, Int.reducePow, Int.reduceAdd, Int.reduceSub, Int.reduceMul, nco, eq_self, Int.reduceEq, Int.reduceLT, Int.reduceLE, w_run1, w_run2, w_run3, fl_tup, fl_lst, ix_tup0, ix_tup1, Bool.false_eq_true, reduceCtorEq, ↓w_comp0, ↓w_comp1, wipe0, wipe1, fall_lst, bools0, bools1, Option.map_some, List.all_cons, List.all_nil, id, Bool.and_true, Bool.and_false, Bool.true_and, Bool.false_and, ↓t_rt, ↓t_nx, t_rt, t_nx, kz_int, kz_div, kz_isn0, kz_isn1, kz_isn2, kz_isn3, w_raise0, kz_isl1, kz_isl2, kz_isl3, kz_isb1, fr_t, fr_l, gfl_lst])
      refine wp_ref1 ?_
      (try simp only [↓w_ok, ↓w_exc, ↓w_bad, ↓w_bnd, ↓w_ret, ↓w_badm, ↓w_lift, ↓o_some, ↓o_none, ↓o_map, ↓o_ite, ↓c_true, ↓b_true, ↓b_false, ↓f_nx, ↓f_rt, ↓f_bk, ↓f_ct, ↓f_ex, ↓w_var, ↓w_c, ↓w_c2, ↓w_c1, ↓w_cN, ↓w_nil, ↓w_cons, ↓w_tup, ↓w_lst, ↓w_frz, ↓w_own, ↓w_call, ↓w_no, ↓w_part, ↓w_sl, ↓w_tB, ↓w_tAnd, ↓w_tOr, ↓w_tNot, ↓w_tYes, ↓w_vAnd, ↓w_vOr, ↓w_vNot, ↓w_if, ↓w_pNil, ↓w_pCons, ↓w_dict, ↓w_lc, ↓w_iSeq, ↓w_iRng, ↓w_next, ↓w_seq, ↓w_do, ↓w_sret, ↓w_sretN, ↓w_drop, ↓w_sif, ↓w_brk, ↓w_cnt, ↓w_asg, ↓w_nm, ↓w_gnil, ↓w_gcons, ↓w_gseq, ↓w_gsub, ↓w_par, ↓w_for, ↓w_dput, ↓w_app, ↓l_nx, ↓l_ct, ↓l_bk, ↓l_rt, ↓l_ex, ↓w_loop0, ↓w_run1, ↓w_run2, ↓w_run3, ↓e_rt, ↓e_nx, ↓e_ex, e_rt, e_nx, e_ex, l_nx, l_ct, l_bk, l_rt, l_ex, k_add, k_sub, k_mul, k_div, k_mod, k_pow, k_neg, k_cmp, k_eqi, k_nei, k_divmod, k_gcd, k_abs, i_tup, i_lst, i_ro, lo_lst, st_lst, st_ro, st_tup, o_some, o_none, o_map, o_ite, c_true, b_true, b_false, f_nx, f_rt, f_bk, f_ct, f_ex, boolD_bl, intD_int, two_two, w_ok, bx_turn, bx_cells, bx_put, bx_lenc, bx_ix, bx_sub, List.getElem?_cons_zero, List.getElem?_cons_succ, List.getElem?_nil, List.set_cons_zero, List.set_cons_succ, List.map_cons, List.map_nil, List.replicate_succ, List.replicate_zero, List.cons_append, List.nil_append, List.length_cons, List.length_nil, szl, isa_int_non, isa_int_bl, isa_int_int, isa_int_str, isa_int_tup, isa_int_lst, isa_int_ro, isa_bool_non, isa_bool_bl, isa_bool_int, isa_bool_str, isa_bool_tup, isa_bool_lst, isa_bool_ro, isa_tuple_non, isa_tuple_bl, isa_tuple_int, isa_tuple_str, isa_tuple_tup, isa_tuple_lst, isa_tuple_ro, isa_list_non, isa_list_bl, isa_list_int, isa_list_str, isa_list_tup, isa_list_lst, isa_list_ro, isa_str_non, isa_str_bl, isa_str_int, isa_str_str, isa_str_tup, isa_str_lst, isa_str_ro, isl_non, isl_bl, isl_int, isl_str, isl_tup, isl_lst, isl_ro, Nat.zero_add, Nat.reduceAdd, Nat.reduceSub, Nat.reduceLeDiff, Nat.reduceLT, Nat.reducePow, Int.reduceNeg, decide_true, decide_false, Bool.not_true, Bool.not_false, Int.reduceToNat, Int.reducePow, Int.reduceAdd, Int.reduceSub, Int.reduceMul, nco, eq_self, Int.reduceEq, Int.reduceLT, Int.reduceLE, w_run1, w_run2, w_run3, fl_tup, fl_lst, ix_tup0, ix_tup1, Bool.false_eq_true, reduceCtorEq, ↓w_comp0, ↓w_comp1, wipe0, wipe1, fall_lst, bools0, bools1, Option.map_some, List.all_cons, List.all_nil, id, Bool.and_true, Bool.and_false, Bool.true_and, Bool.false_and, ↓t_rt, ↓t_nx, t_rt, t_nx, kz_int, kz_div, kz_isn0, kz_isn1, kz_isn2, kz_isn3, w_raise0, kz_isl1, kz_isl2, kz_isl3, kz_isb1, fr_t, fr_l, gfl_lst])
      exact ⟨c5, t5, _, _, _, _, _, h5.up (by omega), rfl, rfl⟩
    · have hb := of_decide_eq_false hb
      (try simp only [↓w_ok, ↓w_exc, ↓w_bad, ↓w_bnd, ↓w_ret, ↓w_badm, ↓w_lift, ↓o_some, ↓o_none, ↓o_map, ↓o_ite, ↓c_true, ↓b_true, ↓b_false, ↓f_nx, ↓f_rt, ↓f_bk, ↓f_ct, ↓f_ex, ↓w_var, ↓w_c, ↓w_c2, ↓w_c1, ↓w_cN, ↓w_nil, ↓w_cons, ↓w_tup, ↓w_lst, ↓w_frz, ↓w_own, ↓w_call, ↓w_no, ↓w_part, ↓w_sl, ↓w_tB, ↓w_tAnd, ↓w_tOr, ↓w_tNot, ↓w_tYes, ↓w_vAnd, ↓w_vOr, ↓w_vNot, ↓w_if, ↓w_pNil, ↓w_pCons, ↓w_dict, ↓w_lc, ↓w_iSeq, ↓w_iRng, ↓w_next, ↓w_seq, ↓w_do, ↓w_sret, ↓w_sretN, ↓w_drop, ↓w_sif, ↓w_brk, ↓w_cnt, ↓w_asg, ↓w_nm, ↓w_gnil, ↓w_gcons, ↓w_gseq, ↓w_gsub, ↓w_par, ↓w_for, ↓w_dput, ↓w_app, ↓l_nx, ↓l_ct, ↓l_bk, ↓l_rt, ↓l_ex, ↓w_loop0, ↓w_run1, ↓w_run2, ↓w_run3, ↓e_rt, ↓e_nx, ↓e_ex, e_rt, e_nx, e_ex, l_nx, l_ct, l_bk, l_rt, l_ex, k_add, k_sub, k_mul, k_div, k_mod, k_pow, k_neg, k_cmp, k_eqi, k_nei, k_divmod, k_gcd, k_abs, i_tup, i_lst, i_ro, lo_lst, st_lst, st_ro, st_tup, o_some, o_none, o_map, o_ite, c_true, b_true, b_false, f_nx, f_rt, f_bk, f_ct, f_ex, boolD_bl, intD_int, two_two, w_ok, bx_turn, bx_cells, bx_put, bx_lenc, bx_ix, bx_sub, List.getElem?_cons_zero, List.getElem?_cons_succ, List.getElem?_nil, List.set_cons_zero, List.set_cons_succ, List.map_cons, List.map_nil, List.replicate_succ, List.replicate_zero, List.cons_append, List.nil_append, List.length_cons, List.length_nil, szl, isa_int_non, isa_int_bl, isa_int_int, isa_int_str, isa_int_tup, isa_int_lst, isa_int_ro, isa_bool_non, isa_bool_bl, isa_bool_int, isa_bool_str, isa_bool_tup, isa_bool_lst, isa_bool_ro, isa_tuple_non, isa_tuple_bl, isa_tuple_int, isa_tuple_str, isa_tuple_tup, isa_tuple_lst, isa_tuple_ro, isa_list_non, isa_list_bl, isa_list_int, isa_list_str, isa_list_tup, isa_list_lst, isa_list_ro, isa_str_non, isa_str_bl, isa_str_int, isa_str_str, isa_str_tup, isa_str_lst, isa_str_ro, isl_non, isl_bl, isl_int, isl_str, isl_tup, isl_lst, isl_ro, Nat.zero_add, Nat.reduceAdd, Nat.reduceSub, Nat.reduceLeDiff, Nat.reduceLT, Nat.reducePow, Int.reduceNeg, decide_true, decide_false, Bool.not_true, Bool.not_false, Int.reduceToNat, Int.reducePow, Int.reduceAdd, Int.reduceSub, Int.reduceMul, nco, eq_self, Int.reduceEq, Int.reduceLT, Int.reduceLE, w_run1, w_run2, w_run3, fl_tup, fl_lst, ix_tup0, ix_tup1, Bool.false_eq_true, reduceCtorEq, ↓w_comp0, ↓w_comp1, wipe0, wipe1, fall_lst, bools0, bools1, Option.map_some, List.all_cons, List.all_nil, id, Bool.and_true, Bool.and_false, Bool.true_and, Bool.false_and, ↓t_rt, ↓t_nx, t_rt, t_nx, kz_int, kz_div, kz_isn0, kz_isn1, kz_isn2, kz_isn3, w_raise0, kz_isl1, kz_isl2, kz_isl3, kz_isb1, fr_t, fr_l, gfl_lst])
      refine wp_lowest hb (nat_lt _ st.lt) (nat_lt _ sb2.lt) ?_
      (try simp only [↓w_ok, ↓w_exc, ↓w_bad, ↓w_bnd, ↓w_ret, ↓w_badm, ↓w_lift, ↓o_some, ↓o_none, ↓o_map, ↓o_ite, ↓c_true, ↓b_true, ↓b_false, ↓f_nx, ↓f_rt, ↓f_bk, ↓f_ct, ↓f_ex, ↓w_var, ↓w_c, ↓w_c2, ↓w_c1, ↓w_cN, ↓w_nil, ↓w_cons, ↓w_tup, ↓w_lst, ↓w_frz, ↓w_own, ↓w_call, ↓w_no, ↓w_part, ↓w_sl, ↓w_tB, ↓w_tAnd, ↓w_tOr, ↓w_tNot, ↓w_tYes, ↓w_vAnd, ↓w_vOr, ↓w_vNot, ↓w_if, ↓w_pNil, ↓w_pCons, ↓w_dict, ↓w_lc, ↓w_iSeq, ↓w_iRng, ↓w_next, ↓w_seq, ↓w_do, ↓w_sret, ↓w_sretN, ↓w_drop, ↓w_sif, ↓w_brk, ↓w_cnt, ↓w_asg, ↓w_nm, ↓w_gnil, ↓w_gcons, ↓w_gseq, ↓w_gsub, ↓w_par, ↓w_for, ↓w_dput, ↓w_app, ↓l_nx, ↓l_ct, ↓l_bk, ↓l_rt, ↓l_ex, ↓w_loop0, ↓w_run1, ↓w_run2, ↓w_run3, ↓e_rt, ↓e_nx, ↓e_ex, e_rt, e_nx, e_ex, l_nx, l_ct, l_bk, l_rt, l_ex, k_add, k_sub, k_mul, k_div, k_mod, k_pow, k_neg, k_cmp, k_eqi, k_nei, k_divmod, k_gcd, k_abs, i_tup, i_lst, i_ro, lo_lst, st_lst, st_ro, st_tup, o_some, o_none, o_map, o_ite, c_true, b_true, b_false, f_nx, f_rt, f_bk, f_ct, f_ex, boolD_bl, intD_int, two_two, w_ok, bx_turn, bx_cells, bx_put, bx_lenc, bx_ix, bx_sub, List.getElem?_cons_zero, List.getElem?_cons_succ, List.getElem?_nil, List.set_cons_zero, List.set_cons_succ, List.map_cons, List.map_nil, List.replicate_succ, List.replicate_zero, List.cons_append, List.nil_append, List.length_cons, List.length_nil, szl, isa_int_non, isa_int_bl, isa_int_int, isa_int_str, isa_int_tup, isa_int_lst, isa_int_ro, isa_bool_non, isa_bool_bl, isa_bool_int, isa_bool_str, isa_bool_tup, isa_bool_lst, isa_bool_ro, isa_tuple_non, isa_tuple_bl, isa_tuple_int, isa_tuple_str, isa_tuple_tup, isa_tuple_lst, isa_tuple_ro, isa_list_non, isa_list_bl, isa_list_int, isa_list_str, isa_list_tup, isa_list_lst, isa_list_ro, isa_str_non, isa_str_bl, isa_str_int, isa_str_str, isa_str_tup, isa_str_lst, isa_str_ro, isl_non, isl_bl, isl_int, isl_str, isl_tup, isl_lst, isl_ro, Nat.zero_add, Nat.reduceAdd, Nat.reduceSub, Nat.reduceLeDiff, Nat.reduceLT, Nat.reducePow, Int.reduceNeg, decide_true, decide_false, Bool.not_true, Bool.not_false, Int.reduceToNat, Int.reducePow, Int.reduceAdd, Int.reduceSub, Int.reduceMul, nco, eq_self, Int.reduceEq, Int.reduceLT, Int.reduceLE, w_run1, w_run2, w_run3, fl_tup, fl_lst, ix_tup0, ix_tup1, Bool.false_eq_true, reduceCtorEq, ↓w_comp0, ↓w_comp1, wipe0, wipe1, fall_lst, bools0, bools1, Option.map_some, List.all_cons, List.all_nil, id, Bool.and_true, Bool.and_false, Bool.true_and, Bool.false_and, ↓t_rt, ↓t_nx, t_rt, t_nx, kz_int, kz_div, kz_isn0, kz_isn1, kz_isn2, kz_isn3, w_raise0, kz_isl1, kz_isl2, kz_isl3, kz_isb1, fr_t, fr_l, gfl_lst])
      refine wp_low hb (nat_lt _ st.lt) (nat_lt _ sb2.lt) ?_
      obtain ⟨xq, yq, eQ⟩ := lowD_t (a := g2 - 120) (b := g3 - 60)
      rw [eQ]
      (try simp only [↓w_ok, ↓w_exc, ↓w_bad, ↓w_bnd, ↓w_ret, ↓w_badm, ↓w_lift, ↓o_some, ↓o_none, ↓o_map, ↓o_ite, ↓c_true, ↓b_true, ↓b_false, ↓f_nx, ↓f_rt, ↓f_bk, ↓f_ct, ↓f_ex, ↓w_var, ↓w_c, ↓w_c2, ↓w_c1, ↓w_cN, ↓w_nil, ↓w_cons, ↓w_tup, ↓w_lst, ↓w_frz, ↓w_own, ↓w_call, ↓w_no, ↓w_part, ↓w_sl, ↓w_tB, ↓w_tAnd, ↓w_tOr, ↓w_tNot, ↓w_tYes, ↓w_vAnd, ↓w_vOr, ↓w_vNot, ↓w_if, ↓w_pNil, ↓w_pCons, ↓w_dict, ↓w_lc, ↓w_iSeq, ↓w_iRng, ↓w_next, ↓w_seq, ↓w_do, ↓w_sret, ↓w_sretN, ↓w_drop, ↓w_sif, ↓w_brk, ↓w_cnt, ↓w_asg, ↓w_nm, ↓w_gnil, ↓w_gcons, ↓w_gseq, ↓w_gsub, ↓w_par, ↓w_for, ↓w_dput, ↓w_app, ↓l_nx, ↓l_ct, ↓l_bk, ↓l_rt, ↓l_ex, ↓w_loop0, ↓w_run1, ↓w_run2, ↓w_run3, ↓e_rt, ↓e_nx, ↓e_ex, e_rt, e_nx, e_ex, l_nx, l_ct, l_bk, l_rt, l_ex, k_add, k_sub, k_mul, k_div, k_mod, k_pow, k_neg, k_cmp, k_eqi, k_nei, k_divmod, k_gcd, k_abs, i_tup, i_lst, i_ro, lo_lst, st_lst, st_ro, st_tup, o_some, o_none, o_map, o_ite, c_true, b_true, b_false, f_nx, f_rt, f_bk, f_ct, f_ex, boolD_bl, intD_int, two_two, w_ok, bx_turn, bx_cells, bx_put, bx_lenc, bx_ix, bx_sub, List.getElem?_cons_zero, List.getElem?_cons_succ, List.getElem?_nil, List.set_cons_zero, List.set_cons_succ, List.map_cons, List.map_nil, List.replicate_succ, List.replicate_zero, List.cons_append, List.nil_append, List.length_cons, List.length_nil, szl, isa_int_non, isa_int_bl, isa_int_int, isa_int_str, isa_int_tup, isa_int_lst, isa_int_ro, isa_bool_non, isa_bool_bl, isa_bool_int, isa_bool_str, isa_bool_tup, isa_bool_lst, isa_bool_ro, isa_tuple_non, isa_tuple_bl, isa_tuple_int, isa_tuple_str, isa_tuple_tup, isa_tuple_lst, isa_tuple_ro, isa_list_non, isa_list_bl, isa_list_int, isa_list_str, isa_list_tup, isa_list_lst, isa_list_ro, isa_str_non, isa_str_bl, isa_str_int, isa_str_str, isa_str_tup, isa_str_lst, isa_str_ro, isl_non, isl_bl, isl_int, isl_str, isl_tup, isl_lst, isl_ro, Nat.zero_add, Nat.reduceAdd, Nat.reduceSub, Nat.reduceLeDiff, Nat.reduceLT, Nat.reducePow, Int.reduceNeg, decide_true, decide_false, Bool.not_true, Bool.not_false, Int.reduceToNat, Int.reducePow, Int.reduceAdd, Int.reduceSub, Int.reduceMul, nco, eq_self, Int.reduceEq, Int.reduceLT, Int.reduceLE, w_run1, w_run2, w_run3, fl_tup, fl_lst, ix_tup0, ix_tup1, Bool.false_eq_true, reduceCtorEq, ↓w_comp0, ↓w_comp1, wipe0, wipe1, fall_lst, bools0, bools1, Option.map_some, List.all_cons, List.all_nil, id, Bool.and_true, Bool.and_false, Bool.true_and, Bool.false_and, ↓t_rt, ↓t_nx, t_rt, t_nx, kz_int, kz_div, kz_isn0, kz_isn1, kz_isn2, kz_isn3, w_raise0, kz_isl1, kz_isl2, kz_isl3, kz_isb1, fr_t, fr_l, gfl_lst])
      refine same_ (.tuple [.int xq, .int yq]) (by simp only [ofP, ofPs]) (by simp only [ofP, ofPs]) (by simp [sm]) ?_
      (try simp only [↓w_ok, ↓w_exc, ↓w_bad, ↓w_bnd, ↓w_ret, ↓w_badm, ↓w_lift, ↓o_some, ↓o_none, ↓o_map, ↓o_ite, ↓c_true, ↓b_true, ↓b_false, ↓f_nx, ↓f_rt, ↓f_bk, ↓f_ct, ↓f_ex, ↓w_var, ↓w_c, ↓w_c2, ↓w_c1, ↓w_cN, ↓w_nil, ↓w_cons, ↓w_tup, ↓w_lst, ↓w_frz, ↓w_own, ↓w_call, ↓w_no, ↓w_part, ↓w_sl, ↓w_tB, ↓w_tAnd, ↓w_tOr, ↓w_tNot, ↓w_tYes, ↓w_vAnd, ↓w_vOr, ↓w_vNot, ↓w_if, ↓w_pNil, ↓w_pCons, ↓w_dict, ↓w_lc, ↓w_iSeq, ↓w_iRng, ↓w_next, ↓w_seq, ↓w_do, ↓w_sret, ↓w_sretN, ↓w_drop, ↓w_sif, ↓w_brk, ↓w_cnt, ↓w_asg, ↓w_nm, ↓w_gnil, ↓w_gcons, ↓w_gseq, ↓w_gsub, ↓w_par, ↓w_for, ↓w_dput, ↓w_app, ↓l_nx, ↓l_ct, ↓l_bk, ↓l_rt, ↓l_ex, ↓w_loop0, ↓w_run1, ↓w_run2, ↓w_run3, ↓e_rt, ↓e_nx, ↓e_ex, e_rt, e_nx, e_ex, l_nx, l_ct, l_bk, l_rt, l_ex, k_add, k_sub, k_mul, k_div, k_mod, k_pow, k_neg, k_cmp, k_eqi, k_nei, k_divmod, k_gcd, k_abs, i_tup, i_lst, i_ro, lo_lst, st_lst, st_ro, st_tup, o_some, o_none, o_map, o_ite, c_true, b_true, b_false, f_nx, f_rt, f_bk, f_ct, f_ex, boolD_bl, intD_int, two_two, w_ok, bx_turn, bx_cells, bx_put, bx_lenc, bx_ix, bx_sub, List.getElem?_cons_zero, List.getElem?_cons_succ, List.getElem?_nil, List.set_cons_zero, List.set_cons_succ, List.map_cons, List.map_nil, List.replicate_succ, List.replicate_zero, List.cons_append, List.nil_append, List.length_cons, List.length_nil, szl, isa_int_non, isa_int_bl, isa_int_int, isa_int_str, isa_int_tup, isa_int_lst, isa_int_ro, isa_bool_non, isa_bool_bl, isa_bool_int, isa_bool_str, isa_bool_tup, isa_bool_lst, isa_bool_ro, isa_tuple_non, isa_tuple_bl, isa_tuple_int, isa_tuple_str, isa_tuple_tup, isa_tuple_lst, isa_tuple_ro, isa_list_non, isa_list_bl, isa_list_int, isa_list_str, isa_list_tup, isa_list_lst, isa_list_ro, isa_str_non, isa_str_bl, isa_str_int, isa_str_str, isa_str_tup, isa_str_lst, isa_str_ro, isl_non, isl_bl, isl_int, isl_str, isl_tup, isl_lst, isl_ro, Nat.zero_add, Nat.reduceAdd, Nat.reduceSub, Nat.reduceLeDiff, Nat.reduceLT, Nat.reducePow, Int.reduceNeg, decide_true, decide_false, Bool.not_true, Bool.not_false, Int.reduceToNat, Int.reducePow, Int.reduceAdd, Int.reduceSub, Int.reduceMul, nco, eq_self, Int.reduceEq, Int.reduceLT, Int.reduceLE, w_run1, w_run2, w_run3, fl_tup, fl_lst, ix_tup0, ix_tup1, Bool.false_eq_true, reduceCtorEq, ↓w_comp0, ↓w_comp1, wipe0, wipe1, fall_lst, bools0, bools1, Option.map_some, List.all_cons, List.all_nil, id, Bool.and_true, Bool.and_false, Bool.true_and, Bool.false_and, ↓t_rt, ↓t_nx, t_rt, t_nx, kz_int, kz_div, kz_isn0, kz_isn1, kz_isn2, kz_isn3, w_raise0, kz_isl1, kz_isl2, kz_isl3, kz_isb1, fr_t, fr_l, gfl_lst])
      exact ⟨c5, t5, _, _, _, _, _, h5.up (by omega), rfl, rfl⟩
  · rintro nv s ⟨cs, t, o2, o3, o4, o5, o6, h, rfl, rfl⟩
    have p30 : CPow 10 30 = True := eq_true ⟨by decide, by decide, by decide⟩
    have p28 : CPow 10 28 = True := eq_true ⟨by decide, by decide, by decide⟩
    (try simp only [↓w_ok, ↓w_exc, ↓w_bad, ↓w_bnd, ↓w_ret, ↓w_badm, ↓w_lift, ↓o_some, ↓o_none, ↓o_map, ↓o_ite, ↓c_true, ↓b_true, ↓b_false, ↓f_nx, ↓f_rt, ↓f_bk, ↓f_ct, ↓f_ex, ↓w_var, ↓w_c, ↓w_c2, ↓w_c1, ↓w_cN, ↓w_nil, ↓w_cons, ↓w_tup, ↓w_lst, ↓w_frz, ↓w_own, ↓w_call, ↓w_no, ↓w_part, ↓w_sl, ↓w_tB, ↓w_tAnd, ↓w_tOr, ↓w_tNot, ↓w_tYes, ↓w_vAnd, ↓w_vOr, ↓w_vNot, ↓w_if, ↓w_pNil, ↓w_pCons, ↓w_dict, ↓w_lc, ↓w_iSeq, ↓w_iRng, ↓w_next, ↓w_seq, ↓w_do, ↓w_sret, ↓w_sretN, ↓w_drop, ↓w_sif, ↓w_brk, ↓w_cnt, ↓w_asg, ↓w_nm, ↓w_gnil, ↓w_gcons, ↓w_gseq, ↓w_gsub, ↓w_par, ↓w_for, ↓w_dput, ↓w_app, ↓l_nx, ↓l_ct, ↓l_bk, ↓l_rt, ↓l_ex, ↓w_loop0, ↓w_run1, ↓w_run2, ↓w_run3, ↓e_rt, ↓e_nx, ↓e_ex, e_rt, e_nx, e_ex, l_nx, l_ct, l_bk, l_rt, l_ex, k_add, k_sub, k_mul, k_div, k_mod, k_pow, k_neg, k_cmp, k_eqi, k_nei, k_divmod, k_gcd, k_abs, i_tup, i_lst, i_ro, lo_lst, st_lst, st_ro, st_tup, o_some, o_none, o_map, o_ite, c_true, b_true, b_false, f_nx, f_rt, f_bk, f_ct, f_ex, boolD_bl, intD_int, two_two, w_ok, bx_turn, bx_cells, bx_put, bx_lenc, bx_ix, bx_sub, List.getElem?_cons_zero, List.getElem?_cons_succ, List.getElem?_nil, List.set_cons_zero, List.set_cons_succ, List.map_cons, List.map_nil, List.replicate_succ, List.replicate_zero, List.cons_append, List.nil_append, List.length_cons, List.length_nil, szl, isa_int_non, isa_int_bl, isa_int_int, isa_int_str, isa_int_tup, isa_int_lst, isa_int_ro, isa_bool_non, isa_bool_bl, isa_bool_int, isa_bool_str, isa_bool_tup, isa_bool_lst, isa_bool_ro, isa_tuple_non, isa_tuple_bl, isa_tuple_int, isa_tuple_str, isa_tuple_tup, isa_tuple_lst, isa_tuple_ro, isa_list_non, isa_list_bl, isa_list_int, isa_list_str, isa_list_tup, isa_list_lst, isa_list_ro, isa_str_non, isa_str_bl, isa_str_int, isa_str_str, isa_str_tup, isa_str_lst, isa_str_ro, isl_non, isl_bl, isl_int, isl_str, isl_tup, isl_lst, isl_ro, Nat.zero_add, Nat.reduceAdd, Nat.reduceSub, Nat.reduceLeDiff, Nat.reduceLT, Nat.reducePow, Int.reduceNeg, decide_true, decide_false, Bool.not_true, Bool.not_false, Int.reduceToNat, Int.reducePow, Int.reduceAdd, Int.reduceSub, Int.reduceMul, nco, eq_self, Int.reduceEq, Int.reduceLT, Int.reduceLE, w_run1, w_run2, w_run3, fl_tup, fl_lst, ix_tup0, ix_tup1, Bool.false_eq_true, reduceCtorEq, ↓w_comp0, ↓w_comp1, wipe0, wipe1, fall_lst, bools0, bools1, Option.map_some, List.all_cons, List.all_nil, id, Bool.and_true, Bool.and_false, Bool.true_and, Bool.false_and, ↓t_rt, ↓t_nx, t_rt, t_nx, kz_int, kz_div, kz_isn0, kz_isn1, kz_isn2, kz_isn3, w_raise0, kz_isl1, kz_isl2, kz_isl3, kz_isb1, fr_t, fr_l, gfl_lst, p30, p28])
    refine wp_lowest (by decide) (by decide) (by decide) ?_
    (try simp only [↓w_ok, ↓w_exc, ↓w_bad, ↓w_bnd, ↓w_ret, ↓w_badm, ↓w_lift, ↓o_some, ↓o_none, ↓o_map, ↓o_ite, ↓c_true, ↓b_true, ↓b_false, ↓f_nx, ↓f_rt, ↓f_bk, ↓f_ct, ↓f_ex, ↓w_var, ↓w_c, ↓w_c2, ↓w_c1, ↓w_cN, ↓w_nil, ↓w_cons, ↓w_tup, ↓w_lst, ↓w_frz, ↓w_own, ↓w_call, ↓w_no, ↓w_part, ↓w_sl, ↓w_tB, ↓w_tAnd, ↓w_tOr, ↓w_tNot, ↓w_tYes, ↓w_vAnd, ↓w_vOr, ↓w_vNot, ↓w_if, ↓w_pNil, ↓w_pCons, ↓w_dict, ↓w_lc, ↓w_iSeq, ↓w_iRng, ↓w_next, ↓w_seq, ↓w_do, ↓w_sret, ↓w_sretN, ↓w_drop, ↓w_sif, ↓w_brk, ↓w_cnt, ↓w_asg, ↓w_nm, ↓w_gnil, ↓w_gcons, ↓w_gseq, ↓w_gsub, ↓w_par, ↓w_for, ↓w_dput, ↓w_app, ↓l_nx, ↓l_ct, ↓l_bk, ↓l_rt, ↓l_ex, ↓w_loop0, ↓w_run1, ↓w_run2, ↓w_run3, ↓e_rt, ↓e_nx, ↓e_ex, e_rt, e_nx, e_ex, l_nx, l_ct, l_bk, l_rt, l_ex, k_add, k_sub, k_mul, k_div, k_mod, k_pow, k_neg, k_cmp, k_eqi, k_nei, k_divmod, k_gcd, k_abs, i_tup, i_lst, i_ro, lo_lst, st_lst, st_ro, st_tup, o_some, o_none, o_map, o_ite, c_true, b_true, b_false, f_nx, f_rt, f_bk, f_ct, f_ex, boolD_bl, intD_int, two_two, w_ok, bx_turn, bx_cells, bx_put, bx_lenc, bx_ix, bx_sub, List.getElem?_cons_zero, List.getElem?_cons_succ, List.getElem?_nil, List.set_cons_zero, List.set_cons_succ, List.map_cons, List.map_nil, List.replicate_succ, List.replicate_zero, List.cons_append, List.nil_append, List.length_cons, List.length_nil, szl, isa_int_non, isa_int_bl, isa_int_int, isa_int_str, isa_int_tup, isa_int_lst, isa_int_ro, isa_bool_non, isa_bool_bl, isa_bool_int, isa_bool_str, isa_bool_tup, isa_bool_lst, isa_bool_ro, isa_tuple_non, isa_tuple_bl, isa_tuple_int, isa_tuple_str, isa_tuple_tup, isa_tuple_lst, isa_tuple_ro, isa_list_non, isa_list_bl, isa_list_int, isa_list_str, isa_list_tup, isa_list_lst, isa_list_ro, isa_str_non, isa_str_bl, isa_str_int, isa_str_str, isa_str_tup, isa_str_lst, isa_str_ro, isl_non, isl_bl, isl_int, isl_str, isl_tup, isl_lst, isl_ro, Nat.zero_add, Nat.reduceAdd, Nat.reduceSub, Nat.reduceLeDiff, Nat.reduceLT, Nat.reducePow, Int.reduceNeg, decide_true, decide_false, Bool.not_true, Bool.not_false, Int.reduceToNat, Int.reducePow, Int.reduceAdd, Int.reduceSub, Int.reduceMul, nco, eq_self, Int.reduceEq, Int.reduceLT, Int.reduceLE, w_run1, w_run2, w_run3, fl_tup, fl_lst, ix_tup0, ix_tup1, Bool.false_eq_true, reduceCtorEq, ↓w_comp0, ↓w_comp1, wipe0, wipe1, fall_lst, bools0, bools1, Option.map_some, List.all_cons, List.all_nil, id, Bool.and_true, Bool.and_false, Bool.true_and, Bool.false_and, ↓t_rt, ↓t_nx, t_rt, t_nx, kz_int, kz_div, kz_isn0, kz_isn1, kz_isn2, kz_isn3, w_raise0, kz_isl1, kz_isl2, kz_isl3, kz_isb1, fr_t, fr_l, gfl_lst, p30, p28])
    refine wp_lowest (by decide) (by decide) (by decide) ?_
    (try simp only [↓w_ok, ↓w_exc, ↓w_bad, ↓w_bnd, ↓w_ret, ↓w_badm, ↓w_lift, ↓o_some, ↓o_none, ↓o_map, ↓o_ite, ↓c_true, ↓b_true, ↓b_false, ↓f_nx, ↓f_rt, ↓f_bk, ↓f_ct, ↓f_ex, ↓w_var, ↓w_c, ↓w_c2, ↓w_c1, ↓w_cN, ↓w_nil, ↓w_cons, ↓w_tup, ↓w_lst, ↓w_frz, ↓w_own, ↓w_call, ↓w_no, ↓w_part, ↓w_sl, ↓w_tB, ↓w_tAnd, ↓w_tOr, ↓w_tNot, ↓w_tYes, ↓w_vAnd, ↓w_vOr, ↓w_vNot, ↓w_if, ↓w_pNil, ↓w_pCons, ↓w_dict, ↓w_lc, ↓w_iSeq, ↓w_iRng, ↓w_next, ↓w_seq, ↓w_do, ↓w_sret, ↓w_sretN, ↓w_drop, ↓w_sif, ↓w_brk, ↓w_cnt, ↓w_asg, ↓w_nm, ↓w_gnil, ↓w_gcons, ↓w_gseq, ↓w_gsub, ↓w_par, ↓w_for, ↓w_dput, ↓w_app, ↓l_nx, ↓l_ct, ↓l_bk, ↓l_rt, ↓l_ex, ↓w_loop0, ↓w_run1, ↓w_run2, ↓w_run3, ↓e_rt, ↓e_nx, ↓e_ex, e_rt, e_nx, e_ex, l_nx, l_ct, l_bk, l_rt, l_ex, k_add, k_sub, k_mul, k_div, k_mod, k_pow, k_neg, k_cmp, k_eqi, k_nei, k_divmod, k_gcd, k_abs, i_tup, i_lst, i_ro, lo_lst, st_lst, st_ro, st_tup, o_some, o_none, o_map, o_ite, c_true, b_true, b_false, f_nx, f_rt, f_bk, f_ct, f_ex, boolD_bl, intD_int, two_two, w_ok, bx_turn, bx_cells, bx_put, bx_lenc, bx_ix, bx_sub, List.getElem?_cons_zero, List.getElem?_cons_succ, List.getElem?_nil, List.set_cons_zero, List.set_cons_succ, List.map_cons, List.map_nil, List.replicate_succ, List.replicate_zero, List.cons_append, List.nil_append, List.length_cons, List.length_nil, szl, isa_int_non, isa_int_bl, isa_int_int, isa_int_str, isa_int_tup, isa_int_lst, isa_int_ro, isa_bool_non, isa_bool_bl, isa_bool_int, isa_bool_str, isa_bool_tup, isa_bool_lst, isa_bool_ro, isa_tuple_non, isa_tuple_bl, isa_tuple_int, isa_tuple_str, isa_tuple_tup, isa_tuple_lst, isa_tuple_ro, isa_list_non, isa_list_bl, isa_list_int, isa_list_str, isa_list_tup, isa_list_lst, isa_list_ro, isa_str_non, isa_str_bl, isa_str_int, isa_str_str, isa_str_tup, isa_str_lst, isa_str_ro, isl_non, isl_bl, isl_int, isl_str, isl_tup, isl_lst, isl_ro, Nat.zero_add, Nat.reduceAdd, Nat.reduceSub, Nat.reduceLeDiff, Nat.reduceLT, Nat.reducePow, Int.reduceNeg, decide_true, decide_false, Bool.not_true, Bool.not_false, Int.reduceToNat, Int.reducePow, Int.reduceAdd, Int.reduceSub, Int.reduceMul, nco, eq_self, Int.reduceEq, Int.reduceLT, Int.reduceLE, w_run1, w_run2, w_run3, fl_tup, fl_lst, ix_tup0, ix_tup1, Bool.false_eq_true, reduceCtorEq, ↓w_comp0, ↓w_comp1, wipe0, wipe1, fall_lst, bools0, bools1, Option.map_some, List.all_cons, List.all_nil, id, Bool.and_true, Bool.and_false, Bool.true_and, Bool.false_and, ↓t_rt, ↓t_nx, t_rt, t_nx, kz_int, kz_div, kz_isn0, kz_isn1, kz_isn2, kz_isn3, w_raise0, kz_isl1, kz_isl2, kz_isl3, kz_isb1, fr_t, fr_l, gfl_lst, p30, p28])
    refine wp_lowest (by decide) (by decide) (by decide) ?_
    have l1 : lowD 0 (-5) = .tup [.int 0, .int 1] := lowD_eq (by decide +kernel)
    have l2 : lowD (-6) (-4) = .tup [.int 3, .int 2] := lowD_eq (by decide +kernel)
    have l3 : lowD 1000000000000000000000000000000 (-10000000000000000000000000000) = .tup [.int (-100), .int 1] := lowD_eq (by decide +kernel)
    (try simp only [↓w_ok, ↓w_exc, ↓w_bad, ↓w_bnd, ↓w_ret, ↓w_badm, ↓w_lift, ↓o_some, ↓o_none, ↓o_map, ↓o_ite, ↓c_true, ↓b_true, ↓b_false, ↓f_nx, ↓f_rt, ↓f_bk, ↓f_ct, ↓f_ex, ↓w_var, ↓w_c, ↓w_c2, ↓w_c1, ↓w_cN, ↓w_nil, ↓w_cons, ↓w_tup, ↓w_lst, ↓w_frz, ↓w_own, ↓w_call, ↓w_no, ↓w_part, ↓w_sl, ↓w_tB, ↓w_tAnd, ↓w_tOr, ↓w_tNot, ↓w_tYes, ↓w_vAnd, ↓w_vOr, ↓w_vNot, ↓w_if, ↓w_pNil, ↓w_pCons, ↓w_dict, ↓w_lc, ↓w_iSeq, ↓w_iRng, ↓w_next, ↓w_seq, ↓w_do, ↓w_sret, ↓w_sretN, ↓w_drop, ↓w_sif, ↓w_brk, ↓w_cnt, ↓w_asg, ↓w_nm, ↓w_gnil, ↓w_gcons, ↓w_gseq, ↓w_gsub, ↓w_par, ↓w_for, ↓w_dput, ↓w_app, ↓l_nx, ↓l_ct, ↓l_bk, ↓l_rt, ↓l_ex, ↓w_loop0, ↓w_run1, ↓w_run2, ↓w_run3, ↓e_rt, ↓e_nx, ↓e_ex, e_rt, e_nx, e_ex, l_nx, l_ct, l_bk, l_rt, l_ex, k_add, k_sub, k_mul, k_div, k_mod, k_pow, k_neg, k_cmp, k_eqi, k_nei, k_divmod, k_gcd, k_abs, i_tup, i_lst, i_ro, lo_lst, st_lst, st_ro, st_tup, o_some, o_none, o_map, o_ite, c_true, b_true, b_false, f_nx, f_rt, f_bk, f_ct, f_ex, boolD_bl, intD_int, two_two, w_ok, bx_turn, bx_cells, bx_put, bx_lenc, bx_ix, bx_sub, List.getElem?_cons_zero, List.getElem?_cons_succ, List.getElem?_nil, List.set_cons_zero, List.set_cons_succ, List.map_cons, List.map_nil, List.replicate_succ, List.replicate_zero, List.cons_append, List.nil_append, List.length_cons, List.length_nil, szl, isa_int_non, isa_int_bl, isa_int_int, isa_int_str, isa_int_tup, isa_int_lst, isa_int_ro, isa_bool_non, isa_bool_bl, isa_bool_int, isa_bool_str, isa_bool_tup, isa_bool_lst, isa_bool_ro, isa_tuple_non, isa_tuple_bl, isa_tuple_int, isa_tuple_str, isa_tuple_tup, isa_tuple_lst, isa_tuple_ro, isa_list_non, isa_list_bl, isa_list_int, isa_list_str, isa_list_tup, isa_list_lst, isa_list_ro, isa_str_non, isa_str_bl, isa_str_int, isa_str_str, isa_str_tup, isa_str_lst, isa_str_ro, isl_non, isl_bl, isl_int, isl_str, isl_tup, isl_lst, isl_ro, Nat.zero_add, Nat.reduceAdd, Nat.reduceSub, Nat.reduceLeDiff, Nat.reduceLT, Nat.reducePow, Int.reduceNeg, decide_true, decide_false, Bool.not_true, Bool.not_false, Int.reduceToNat, Int.reducePow, Int.reduceAdd, Int.reduceSub, Int.reduceMul, nco, eq_self, Int.reduceEq, Int.reduceLT, Int.reduceLE, w_run1, w_run2, w_run3, fl_tup, fl_lst, ix_tup0, ix_tup1, Bool.false_eq_true, reduceCtorEq, ↓w_comp0, ↓w_comp1, wipe0, wipe1, fall_lst, bools0, bools1, Option.map_some, List.all_cons, List.all_nil, id, Bool.and_true, Bool.and_false, Bool.true_and, Bool.false_and, ↓t_rt, ↓t_nx, t_rt, t_nx, kz_int, kz_div, kz_isn0, kz_isn1, kz_isn2, kz_isn3, w_raise0, kz_isl1, kz_isl2, kz_isl3, kz_isb1, fr_t, fr_l, gfl_lst])
    refine same_ (.list [.tuple [.int 0, .int 1], .tuple [.int 3, .int 2], .tuple [.int (-100), .int 1]]) (by rw [l1, l2, l3]; simp only [ofP, ofPs]) (by simp only [ofP, ofPs]) (by decide +kernel) ?_
    (try simp only [↓w_ok, ↓w_exc, ↓w_bad, ↓w_bnd, ↓w_ret, ↓w_badm, ↓w_lift, ↓o_some, ↓o_none, ↓o_map, ↓o_ite, ↓c_true, ↓b_true, ↓b_false, ↓f_nx, ↓f_rt, ↓f_bk, ↓f_ct, ↓f_ex, ↓w_var, ↓w_c, ↓w_c2, ↓w_c1, ↓w_cN, ↓w_nil, ↓w_cons, ↓w_tup, ↓w_lst, ↓w_frz, ↓w_own, ↓w_call, ↓w_no, ↓w_part, ↓w_sl, ↓w_tB, ↓w_tAnd, ↓w_tOr, ↓w_tNot, ↓w_tYes, ↓w_vAnd, ↓w_vOr, ↓w_vNot, ↓w_if, ↓w_pNil, ↓w_pCons, ↓w_dict, ↓w_lc, ↓w_iSeq, ↓w_iRng, ↓w_next, ↓w_seq, ↓w_do, ↓w_sret, ↓w_sretN, ↓w_drop, ↓w_sif, ↓w_brk, ↓w_cnt, ↓w_asg, ↓w_nm, ↓w_gnil, ↓w_gcons, ↓w_gseq, ↓w_gsub, ↓w_par, ↓w_for, ↓w_dput, ↓w_app, ↓l_nx, ↓l_ct, ↓l_bk, ↓l_rt, ↓l_ex, ↓w_loop0, ↓w_run1, ↓w_run2, ↓w_run3, ↓e_rt, ↓e_nx, ↓e_ex, e_rt, e_nx, e_ex, l_nx, l_ct, l_bk, l_rt, l_ex, k_add, k_sub, k_mul, k_div, k_mod, k_pow, k_neg, k_cmp, k_eqi, k_nei, k_divmod, k_gcd, k_abs, i_tup, i_lst, i_ro, lo_lst, st_lst, st_ro, st_tup, o_some, o_none, o_map, o_ite, c_true, b_true, b_false, f_nx, f_rt, f_bk, f_ct, f_ex, boolD_bl, intD_int, two_two, w_ok, bx_turn, bx_cells, bx_put, bx_lenc, bx_ix, bx_sub, List.getElem?_cons_zero, List.getElem?_cons_succ, List.getElem?_nil, List.set_cons_zero, List.set_cons_succ, List.map_cons, List.map_nil, List.replicate_succ, List.replicate_zero, List.cons_append, List.nil_append, List.length_cons, List.length_nil, szl, isa_int_non, isa_int_bl, isa_int_int, isa_int_str, isa_int_tup, isa_int_lst, isa_int_ro, isa_bool_non, isa_bool_bl, isa_bool_int, isa_bool_str, isa_bool_tup, isa_bool_lst, isa_bool_ro, isa_tuple_non, isa_tuple_bl, isa_tuple_int, isa_tuple_str, isa_tuple_tup, isa_tuple_lst, isa_tuple_ro, isa_list_non, isa_list_bl, isa_list_int, isa_list_str, isa_list_tup, isa_list_lst, isa_list_ro, isa_str_non, isa_str_bl, isa_str_int, isa_str_str, isa_str_tup, isa_str_lst, isa_str_ro, isl_non, isl_bl, isl_int, isl_str, isl_tup, isl_lst, isl_ro, Nat.zero_add, Nat.reduceAdd, Nat.reduceSub, Nat.reduceLeDiff, Nat.reduceLT, Nat.reducePow, Int.reduceNeg, decide_true, decide_false, Bool.not_true, Bool.not_false, Int.reduceToNat, Int.reducePow, Int.reduceAdd, Int.reduceSub, Int.reduceMul, nco, eq_self, Int.reduceEq, Int.reduceLT, Int.reduceLE, w_run1, w_run2, w_run3, fl_tup, fl_lst, ix_tup0, ix_tup1, Bool.false_eq_true, reduceCtorEq, ↓w_comp0, ↓w_comp1, wipe0, wipe1, fall_lst, bools0, bools1, Option.map_some, List.all_cons, List.all_nil, id, Bool.and_true, Bool.and_false, Bool.true_and, Bool.false_and, ↓t_rt, ↓t_nx, t_rt, t_nx, kz_int, kz_div, kz_isn0, kz_isn1, kz_isn2, kz_isn3, w_raise0, kz_isl1, kz_isl2, kz_isl3, kz_isb1, fr_t, fr_l, gfl_lst])
theorem _root_.Gk02.law_true (ns : List Int) (hn : ns.length ≤ 63) (hb : ∀ z ∈ ns, PySem.Builtin.Int.intBits z ≤ 1048576) : ∃ st, Gk02.m_law [.ro (ns.map .int)] [] = .ok (.bl true) st := by
  have h := k02_true ns hn
  cases e : Gk02.m_law [.ro (ns.map .int)] [] with
  | ok a st =>
    rw [e] at h
    have h : a = .bl true := h
    exact ⟨st, by rw [h]⟩
  | exc x st =>
    rw [e] at h
    exact absurd h id
  | bad =>
    rw [e] at h
    exact absurd h id
end
end PV
end

section
namespace Gk02
open PySem PySem.Spec PyProof.Rows L2 PV
def topS (i : Nat) : Stmt := PySem.Challenge.pw_squarepapers_k02_fractions_reckoned.main.body.getD i (.Pass ⟨0, 0, 0, 0⟩)
abbrev s_lowest : Stmt := topS 7
theorem sc_lowest : FnScope ["top", "bottom", "common"] ["top", "bottom"] (defScope s_lowest) := ⟨rfl, rfl, rfl, by decide +kernel, rfl, by decide +kernel, by decide +kernel⟩
abbrev s_plus : Stmt := topS 8
theorem sc_plus : FnScope ["one", "other", "a", "b", "c", "d"] ["one", "other"] (defScope s_plus) := ⟨rfl, rfl, rfl, by decide +kernel, rfl, by decide +kernel, by decide +kernel⟩
abbrev s_less : Stmt := topS 9
theorem sc_less : FnScope ["one", "other", "a", "b", "c", "d"] ["one", "other"] (defScope s_less) := ⟨rfl, rfl, rfl, by decide +kernel, rfl, by decide +kernel, by decide +kernel⟩
abbrev s_times : Stmt := topS 10
theorem sc_times : FnScope ["one", "other", "a", "b", "c", "d"] ["one", "other"] (defScope s_times) := ⟨rfl, rfl, rfl, by decide +kernel, rfl, by decide +kernel, by decide +kernel⟩
abbrev s_over : Stmt := topS 11
theorem sc_over : FnScope ["one", "other", "a", "b", "c", "d"] ["one", "other"] (defScope s_over) := ⟨rfl, rfl, rfl, by decide +kernel, rfl, by decide +kernel, by decide +kernel⟩
abbrev s_sign_of : Stmt := topS 12
theorem sc_sign_of : FnScope ["fraction", "top"] ["fraction"] (defScope s_sign_of) := ⟨rfl, rfl, rfl, by decide +kernel, rfl, by decide +kernel, by decide +kernel⟩
abbrev s_compared : Stmt := topS 13
theorem sc_compared : FnScope ["one", "other"] ["one", "other"] (defScope s_compared) := ⟨rfl, rfl, rfl, by decide +kernel, rfl, by decide +kernel, by decide +kernel⟩
abbrev s_l_begin : Stmt := topS 15
theorem sc_l_begin : FnScope ["_law_script", "_law_handed"] ["_law_script"] (defScope s_l_begin) := ⟨rfl, rfl, rfl, by decide +kernel, rfl, by decide +kernel, by decide +kernel⟩
abbrev s_l_take : Stmt := topS 16
theorem sc_l_take : FnScope ["_law_box", "_law_size", "_law_turn", "_law_here", "_law_cell", "_law_near", "_law_mixed", "_law_digit"] ["_law_box", "_law_size"] (defScope s_l_take) := ⟨rfl, rfl, rfl, by decide +kernel, rfl, by decide +kernel, by decide +kernel⟩
abbrev s_l_same : Stmt := topS 17
theorem sc_l_same : FnScope ["_law_found", "_law_due", "_law_one", "_law_other"] ["_law_found", "_law_due"] (defScope s_l_same) := ⟨rfl, rfl, rfl, by decide +kernel, rfl, by decide +kernel, by decide +kernel⟩
abbrev s_l_low : Stmt := topS 18
theorem sc_l_low : FnScope ["_law_top", "_law_bottom", "_law_one", "_law_other", "_law_turn", "_law_sign"] ["_law_top", "_law_bottom"] (defScope s_l_low) := ⟨rfl, rfl, rfl, by decide +kernel, rfl, by decide +kernel, by decide +kernel⟩
abbrev s_l_add : Stmt := topS 19
theorem sc_l_add : FnScope ["_law_one", "_law_two"] ["_law_one", "_law_two"] (defScope s_l_add) := ⟨rfl, rfl, rfl, by decide +kernel, rfl, by decide +kernel, by decide +kernel⟩
abbrev s_l_mul : Stmt := topS 20
theorem sc_l_mul : FnScope ["_law_one", "_law_two"] ["_law_one", "_law_two"] (defScope s_l_mul) := ⟨rfl, rfl, rfl, by decide +kernel, rfl, by decide +kernel, by decide +kernel⟩
abbrev s_l_neg : Stmt := topS 21
theorem sc_l_neg : FnScope ["_law_one"] ["_law_one"] (defScope s_l_neg) := ⟨rfl, rfl, rfl, by decide +kernel, rfl, by decide +kernel, by decide +kernel⟩
abbrev s_l_fraction : Stmt := topS 22
theorem sc_l_fraction : FnScope ["_law_box", "_law_way"] ["_law_box"] (defScope s_l_fraction) := ⟨rfl, rfl, rfl, by decide +kernel, rfl, by decide +kernel, by decide +kernel⟩
abbrev s_l_refused : Stmt := topS 23
theorem sc_l_refused : FnScope ["_law_way", "_law_one", "_law_two", "_law_caught", "error"] ["_law_way", "_law_one", "_law_two"] (defScope s_l_refused) := ⟨rfl, rfl, rfl, by decide +kernel, rfl, by decide +kernel, by decide +kernel⟩
abbrev s_l_pair_right : Stmt := topS 24
theorem sc_l_pair_right : FnScope ["_law_one", "_law_two", "_law_kept", "_law_gap", "_law_due", "_law_told", "_law_listed", "_law_again", "_law_quotient"] ["_law_one", "_law_two"] (defScope s_l_pair_right) := ⟨rfl, rfl, rfl, by decide +kernel, rfl, by decide +kernel, by decide +kernel⟩
abbrev s_law : Stmt := topS 25
theorem sc_law : FnScope ["_law_script", "_law_box", "_law_turn", "_law_one", "_law_two", "_law_top", "_law_bottom"] ["_law_script"] (defScope s_law) := ⟨rfl, rfl, rfl, by decide +kernel, rfl, by decide +kernel, by decide +kernel⟩
/-- where the defs stand -/
structure Tx (K : PySem.W.Frag) (mg : Str → Option Value) (f_lowest f_plus f_less f_times f_over f_sign_of f_compared f_l_begin f_l_take f_l_same f_l_low f_l_add f_l_mul f_l_neg f_l_fraction f_l_refused f_l_pair_right f_law C_NoParts C_BadText C_NoClaim C_NoWorth : Addr) (d_lowest d_plus d_less d_times d_over d_sign_of d_compared d_l_begin d_l_take d_l_same d_l_low d_l_add d_l_mul d_l_neg d_l_fraction d_l_refused d_l_pair_right d_law : FuncData) : Prop where
  F_lowest : Fun K "lowest" "lowest" s_lowest f_lowest d_lowest
  g_lowest : mg "lowest" = some (.ref f_lowest)
  b_lowest : Binds K d_lowest ["top", "bottom"] []
  F_plus : Fun K "plus" "plus" s_plus f_plus d_plus
  g_plus : mg "plus" = some (.ref f_plus)
  b_plus : Binds K d_plus ["one", "other"] []
  F_less : Fun K "less" "less" s_less f_less d_less
  g_less : mg "less" = some (.ref f_less)
  b_less : Binds K d_less ["one", "other"] []
  F_times : Fun K "times" "times" s_times f_times d_times
  g_times : mg "times" = some (.ref f_times)
  b_times : Binds K d_times ["one", "other"] []
  F_over : Fun K "over" "over" s_over f_over d_over
  g_over : mg "over" = some (.ref f_over)
  b_over : Binds K d_over ["one", "other"] []
  F_sign_of : Fun K "sign_of" "sign_of" s_sign_of f_sign_of d_sign_of
  g_sign_of : mg "sign_of" = some (.ref f_sign_of)
  b_sign_of : Binds K d_sign_of ["fraction"] []
  F_compared : Fun K "compared" "compared" s_compared f_compared d_compared
  g_compared : mg "compared" = some (.ref f_compared)
  b_compared : Binds K d_compared ["one", "other"] []
  F_l_begin : Fun K "_law_begin" "_law_begin" s_l_begin f_l_begin d_l_begin
  g_l_begin : mg "_law_begin" = some (.ref f_l_begin)
  b_l_begin : Binds K d_l_begin ["_law_script"] []
  F_l_take : Fun K "_law_take" "_law_take" s_l_take f_l_take d_l_take
  g_l_take : mg "_law_take" = some (.ref f_l_take)
  b_l_take : Binds K d_l_take ["_law_box", "_law_size"] []
  F_l_same : Fun K "_law_same" "_law_same" s_l_same f_l_same d_l_same
  g_l_same : mg "_law_same" = some (.ref f_l_same)
  b_l_same : Binds K d_l_same ["_law_found", "_law_due"] []
  F_l_low : Fun K "_law_low" "_law_low" s_l_low f_l_low d_l_low
  g_l_low : mg "_law_low" = some (.ref f_l_low)
  b_l_low : Binds K d_l_low ["_law_top", "_law_bottom"] []
  F_l_add : Fun K "_law_add" "_law_add" s_l_add f_l_add d_l_add
  g_l_add : mg "_law_add" = some (.ref f_l_add)
  b_l_add : Binds K d_l_add ["_law_one", "_law_two"] []
  F_l_mul : Fun K "_law_mul" "_law_mul" s_l_mul f_l_mul d_l_mul
  g_l_mul : mg "_law_mul" = some (.ref f_l_mul)
  b_l_mul : Binds K d_l_mul ["_law_one", "_law_two"] []
  F_l_neg : Fun K "_law_neg" "_law_neg" s_l_neg f_l_neg d_l_neg
  g_l_neg : mg "_law_neg" = some (.ref f_l_neg)
  b_l_neg : Binds K d_l_neg ["_law_one"] []
  F_l_fraction : Fun K "_law_fraction" "_law_fraction" s_l_fraction f_l_fraction d_l_fraction
  g_l_fraction : mg "_law_fraction" = some (.ref f_l_fraction)
  b_l_fraction : Binds K d_l_fraction ["_law_box"] []
  F_l_refused : Fun K "_law_refused" "_law_refused" s_l_refused f_l_refused d_l_refused
  g_l_refused : mg "_law_refused" = some (.ref f_l_refused)
  b_l_refused : Binds K d_l_refused ["_law_way", "_law_one", "_law_two"] []
  F_l_pair_right : Fun K "_law_pair_right" "_law_pair_right" s_l_pair_right f_l_pair_right d_l_pair_right
  g_l_pair_right : mg "_law_pair_right" = some (.ref f_l_pair_right)
  b_l_pair_right : Binds K d_l_pair_right ["_law_one", "_law_two"] []
  F_law : Fun K "law" "law" s_law f_law d_law
  g_law : mg "law" = some (.ref f_law)
  b_law : Binds K d_law ["_law_script"] []
  z_list : mg "list" = none
  z_len : mg "len" = none
  z_divmod : mg "divmod" = none
  z_isinstance : mg "isinstance" = none
  z_tuple : mg "tuple" = none
  z_zip : mg "zip" = none
  z_all : mg "all" = none
  z_str : mg "str" = none
  z_bool : mg "bool" = none
  z_int : mg "int" = none
  z_abs : mg "abs" = none
  z_range : mg "range" = none
  z_ZeroDivisionError : mg "ZeroDivisionError" = none
  z_repr : mg "repr" = none
  i_gcd : mg "gcd" = some (.builtin "math.gcd")
  gx_NoParts : mg "NoParts" = some (.ref C_NoParts)
  gx_BadText : mg "BadText" = some (.ref C_BadText)
  gx_NoClaim : mg "NoClaim" = some (.ref C_NoClaim)
  gx_NoWorth : mg "NoWorth" = some (.ref C_NoWorth)
  xe_NoParts : PySem.W.excIn K C_NoParts [.type "ZeroDivisionError", .type "ArithmeticError", .type "Exception", .type "BaseException", .type "object"] "ZeroDivisionError.__new__" = true
  xk_NoParts : PySem.W.keepIn K (.ref C_NoParts) = true
  xb_NoParts : PySem.W.subIn K (.ref C_NoParts) (.type "BaseException") = some true
  xt_NoParts : PySem.W.typeIn K (.ref C_NoParts) = some (.type "type")
  xd_NoParts : PySem.W.hasDictIn K C_NoParts = true
  xs_NoParts_NoParts : PySem.W.subIn K (.ref C_NoParts) (.ref C_NoParts) = some true
  xb_BadText : PySem.W.subIn K (.ref C_BadText) (.type "BaseException") = some true
  xd_BadText : PySem.W.hasDictIn K C_BadText = true
  xt_BadText : PySem.W.typeIn K (.ref C_BadText) = some (.type "type")
  xs_NoParts_BadText : PySem.W.subIn K (.ref C_NoParts) (.ref C_BadText) = some false
  xb_NoClaim : PySem.W.subIn K (.ref C_NoClaim) (.type "BaseException") = some true
  xd_NoClaim : PySem.W.hasDictIn K C_NoClaim = true
  xt_NoClaim : PySem.W.typeIn K (.ref C_NoClaim) = some (.type "type")
  xs_NoParts_NoClaim : PySem.W.subIn K (.ref C_NoParts) (.ref C_NoClaim) = some false
  xb_NoWorth : PySem.W.subIn K (.ref C_NoWorth) (.type "BaseException") = some true
  xd_NoWorth : PySem.W.hasDictIn K C_NoWorth = true
  xt_NoWorth : PySem.W.typeIn K (.ref C_NoWorth) = some (.type "type")
  xs_NoParts_NoWorth : PySem.W.subIn K (.ref C_NoParts) (.ref C_NoWorth) = some false
  xa0_NoParts : PySem.W.findIn K (.ref C_NoParts) "__getattribute__" = some (some (.builtin "BaseException.__getattribute__"))
  xa1_NoParts : PySem.W.findIn K (.ref C_NoParts) "__getattr__" = some none
  xa2_NoParts : PySem.W.subIn K (.ref C_NoParts) (.type "BaseException") = some true
  xa3_NoParts : PySem.W.hasDictIn K C_NoParts = true
  xa4_NoParts : PySem.W.findIn K (.ref C_NoParts) "__class__" = some (some (.builtin "object.__class__"))
  xa5_NoParts : PySem.W.specialIn K (.builtin "object.__class__") "__get__" = some (some (.builtin "getset_descriptor.__get__"))
  xa6_NoParts : PySem.W.takesIn K (.builtin "object.__class__") = some true
  xa7_NoParts : PySem.W.mroIn K C_NoParts (.type "object") = some true
  xi_NoParts_ZeroDivisionError : PySem.W.subIn K (.ref C_NoParts) (.type "ZeroDivisionError") = some true
  xn_NoParts : PySem.W.subIn K (.type "NoneType") (.ref C_NoParts) = some false
section
variable {P : Program} {w : World} {K : PySem.W.Frag} {mg : Str → Option Value} {base : Heap} {f_lowest f_plus f_less f_times f_over f_sign_of f_compared f_l_begin f_l_take f_l_same f_l_low f_l_add f_l_mul f_l_neg f_l_fraction f_l_refused f_l_pair_right f_law C_NoParts C_BadText C_NoClaim C_NoWorth : Addr} {d_lowest d_plus d_less d_times d_over d_sign_of d_compared d_l_begin d_l_take d_l_same d_l_low d_l_add d_l_mul d_l_neg d_l_fraction d_l_refused d_l_pair_right d_law : FuncData}
theorem ok_lowest (T : Tx K mg f_lowest f_plus f_less f_times f_over f_sign_of f_compared f_l_begin f_l_take f_l_same f_l_low f_l_add f_l_mul f_l_neg f_l_fraction f_l_refused f_l_pair_right f_law C_NoParts C_BadText C_NoClaim C_NoWorth d_lowest d_plus d_less d_times d_over d_sign_of d_compared d_l_begin d_l_take d_l_same d_l_low d_l_add d_l_mul d_l_neg d_l_fraction d_l_refused d_l_pair_right d_law) : FnG P w K mg base 1 f_lowest d_lowest ["top", "bottom"] m_lowest := FnG.of false T.F_lowest sc_lowest fun cdv A outer s H E hr hgu tk hp => by
  have nd := sc_lowest.nd
  exact ss_cons (ss_if (st_cmp (op_eqD hr.units) (nomark _) os_eq (se_var 1) (se_int)) (ss_one (ss_raise0 rfl tk PySem.F.excBase_ZeroDivisionError T.xe_NoParts T.gx_NoParts T.xk_NoParts (raises_own T.xb_NoParts T.xt_NoParts) (by rfl))) (ss_nil))
    (ss_cons (ss_set 2 nd (se_callI cr_gcd cs_gcd (by rfl) T.i_gcd (sa_cons (se_var 0) (sa_cons (se_var 1) (sa_nil)))))
    (ss_cons (ss_if (st_cmp op_lt (nomark _) (os_cmp (f := fun i j => decide (i < j))) (se_var 1) (se_int)) (ss_one (ss_set 2 nd (se_un un_neg us_neg (se_var 2)))) (ss_nil))
    (ss_one (ss_ret (se_tup (sa_cons (se_op op_fdivZ os_divZ (se_var 0) (se_var 2)) (sa_cons (se_op op_fdivZ os_divZ (se_var 1) (se_var 2)) (sa_nil))))))))
theorem ok_plus (T : Tx K mg f_lowest f_plus f_less f_times f_over f_sign_of f_compared f_l_begin f_l_take f_l_same f_l_low f_l_add f_l_mul f_l_neg f_l_fraction f_l_refused f_l_pair_right f_law C_NoParts C_BadText C_NoClaim C_NoWorth d_lowest d_plus d_less d_times d_over d_sign_of d_compared d_l_begin d_l_take d_l_same d_l_low d_l_add d_l_mul d_l_neg d_l_fraction d_l_refused d_l_pair_right d_law) : FnG P w K mg base 2 f_plus d_plus ["one", "other"] m_plus := FnG.of false T.F_plus sc_plus fun cdv A outer s H E hr hgu tk hp => by
  have nd := sc_plus.nd
  exact ss_cons (ss_asg (se_tup (sa_cons (se_var 0) (sa_cons (se_var 1) (sa_nil)))) (sg_seq rfl (sg_cons (sg_seq rfl (sg_cons (sg_name (S := fun _ => True) 2 nd) (sg_cons (sg_name (S := fun _ => True) 3 nd) (sg_nil)))) (sg_cons (sg_seq rfl (sg_cons (sg_name (S := fun _ => True) 4 nd) (sg_cons (sg_name (S := fun _ => True) 5 nd) (sg_nil)))) (sg_nil)))))
    (ss_one (ss_ret (se_call (ok_lowest T) (hr.mono (by decide)) hgu tk (by rfl) T.g_lowest T.F_lowest.kp T.b_lowest (sa_cons (se_op op_add4 os_add (se_op op_mul2 os_mul (se_var 2) (se_var 5)) (se_op op_mul2 os_mul (se_var 4) (se_var 3))) (sa_cons (se_op op_mul2 os_mul (se_var 3) (se_var 5)) (sa_nil))))))
theorem ok_less (T : Tx K mg f_lowest f_plus f_less f_times f_over f_sign_of f_compared f_l_begin f_l_take f_l_same f_l_low f_l_add f_l_mul f_l_neg f_l_fraction f_l_refused f_l_pair_right f_law C_NoParts C_BadText C_NoClaim C_NoWorth d_lowest d_plus d_less d_times d_over d_sign_of d_compared d_l_begin d_l_take d_l_same d_l_low d_l_add d_l_mul d_l_neg d_l_fraction d_l_refused d_l_pair_right d_law) : FnG P w K mg base 2 f_less d_less ["one", "other"] m_less := FnG.of false T.F_less sc_less fun cdv A outer s H E hr hgu tk hp => by
  have nd := sc_less.nd
  exact ss_cons (ss_asg (se_tup (sa_cons (se_var 0) (sa_cons (se_var 1) (sa_nil)))) (sg_seq rfl (sg_cons (sg_seq rfl (sg_cons (sg_name (S := fun _ => True) 2 nd) (sg_cons (sg_name (S := fun _ => True) 3 nd) (sg_nil)))) (sg_cons (sg_seq rfl (sg_cons (sg_name (S := fun _ => True) 4 nd) (sg_cons (sg_name (S := fun _ => True) 5 nd) (sg_nil)))) (sg_nil)))))
    (ss_one (ss_ret (se_call (ok_lowest T) (hr.mono (by decide)) hgu tk (by rfl) T.g_lowest T.F_lowest.kp T.b_lowest (sa_cons (se_op op_sub os_sub (se_op op_mul2 os_mul (se_var 2) (se_var 5)) (se_op op_mul2 os_mul (se_var 4) (se_var 3))) (sa_cons (se_op op_mul2 os_mul (se_var 3) (se_var 5)) (sa_nil))))))
theorem ok_times (T : Tx K mg f_lowest f_plus f_less f_times f_over f_sign_of f_compared f_l_begin f_l_take f_l_same f_l_low f_l_add f_l_mul f_l_neg f_l_fraction f_l_refused f_l_pair_right f_law C_NoParts C_BadText C_NoClaim C_NoWorth d_lowest d_plus d_less d_times d_over d_sign_of d_compared d_l_begin d_l_take d_l_same d_l_low d_l_add d_l_mul d_l_neg d_l_fraction d_l_refused d_l_pair_right d_law) : FnG P w K mg base 2 f_times d_times ["one", "other"] m_times := FnG.of false T.F_times sc_times fun cdv A outer s H E hr hgu tk hp => by
  have nd := sc_times.nd
  exact ss_cons (ss_asg (se_tup (sa_cons (se_var 0) (sa_cons (se_var 1) (sa_nil)))) (sg_seq rfl (sg_cons (sg_seq rfl (sg_cons (sg_name (S := fun _ => True) 2 nd) (sg_cons (sg_name (S := fun _ => True) 3 nd) (sg_nil)))) (sg_cons (sg_seq rfl (sg_cons (sg_name (S := fun _ => True) 4 nd) (sg_cons (sg_name (S := fun _ => True) 5 nd) (sg_nil)))) (sg_nil)))))
    (ss_one (ss_ret (se_call (ok_lowest T) (hr.mono (by decide)) hgu tk (by rfl) T.g_lowest T.F_lowest.kp T.b_lowest (sa_cons (se_op op_mul2 os_mul (se_var 2) (se_var 4)) (sa_cons (se_op op_mul2 os_mul (se_var 3) (se_var 5)) (sa_nil))))))
theorem ok_over (T : Tx K mg f_lowest f_plus f_less f_times f_over f_sign_of f_compared f_l_begin f_l_take f_l_same f_l_low f_l_add f_l_mul f_l_neg f_l_fraction f_l_refused f_l_pair_right f_law C_NoParts C_BadText C_NoClaim C_NoWorth d_lowest d_plus d_less d_times d_over d_sign_of d_compared d_l_begin d_l_take d_l_same d_l_low d_l_add d_l_mul d_l_neg d_l_fraction d_l_refused d_l_pair_right d_law) : FnG P w K mg base 2 f_over d_over ["one", "other"] m_over := FnG.of false T.F_over sc_over fun cdv A outer s H E hr hgu tk hp => by
  have nd := sc_over.nd
  exact ss_cons (ss_asg (se_tup (sa_cons (se_var 0) (sa_cons (se_var 1) (sa_nil)))) (sg_seq rfl (sg_cons (sg_seq rfl (sg_cons (sg_name (S := fun _ => True) 2 nd) (sg_cons (sg_name (S := fun _ => True) 3 nd) (sg_nil)))) (sg_cons (sg_seq rfl (sg_cons (sg_name (S := fun _ => True) 4 nd) (sg_cons (sg_name (S := fun _ => True) 5 nd) (sg_nil)))) (sg_nil)))))
    (ss_one (ss_ret (se_call (ok_lowest T) (hr.mono (by decide)) hgu tk (by rfl) T.g_lowest T.F_lowest.kp T.b_lowest (sa_cons (se_op op_mul2 os_mul (se_var 2) (se_var 5)) (sa_cons (se_op op_mul2 os_mul (se_var 3) (se_var 4)) (sa_nil))))))
theorem ok_sign_of (T : Tx K mg f_lowest f_plus f_less f_times f_over f_sign_of f_compared f_l_begin f_l_take f_l_same f_l_low f_l_add f_l_mul f_l_neg f_l_fraction f_l_refused f_l_pair_right f_law C_NoParts C_BadText C_NoClaim C_NoWorth d_lowest d_plus d_less d_times d_over d_sign_of d_compared d_l_begin d_l_take d_l_same d_l_low d_l_add d_l_mul d_l_neg d_l_fraction d_l_refused d_l_pair_right d_law) : FnG P w K mg base 1 f_sign_of d_sign_of ["fraction"] m_sign_of := FnG.of false T.F_sign_of sc_sign_of fun cdv A outer s H E hr hgu tk hp => by
  have nd := sc_sign_of.nd
  exact ss_cons (ss_set 1 nd (se_ix (se_var 0) (se_int) (fun _ _ => rfl)))
    (ss_cons (ss_if (st_cmp (op_eqD hr.units) (nomark _) os_eq (se_var 1) (se_int)) (ss_one (ss_ret (se_int))) (ss_nil))
    (ss_one (ss_ret (se_if (st_cmp op_gt (nomark _) (os_cmp (f := fun i j => decide (j < i))) (se_var 1) (se_int)) (se_int) (se_un un_neg us_neg (se_int))))))
theorem ok_compared (T : Tx K mg f_lowest f_plus f_less f_times f_over f_sign_of f_compared f_l_begin f_l_take f_l_same f_l_low f_l_add f_l_mul f_l_neg f_l_fraction f_l_refused f_l_pair_right f_law C_NoParts C_BadText C_NoClaim C_NoWorth d_lowest d_plus d_less d_times d_over d_sign_of d_compared d_l_begin d_l_take d_l_same d_l_low d_l_add d_l_mul d_l_neg d_l_fraction d_l_refused d_l_pair_right d_law) : FnG P w K mg base 3 f_compared d_compared ["one", "other"] m_compared := FnG.of false T.F_compared sc_compared fun cdv A outer s H E hr hgu tk hp => by
  have nd := sc_compared.nd
  exact ss_one (ss_ret (se_call (ok_sign_of T) (hr.mono (by decide)) hgu tk (by rfl) T.g_sign_of T.F_sign_of.kp T.b_sign_of (sa_cons (se_call (ok_less T) (hr.mono (by decide)) hgu tk (by rfl) T.g_less T.F_less.kp T.b_less (sa_cons (se_var 0) (sa_cons (se_var 1) (sa_nil)))) (sa_nil))))
theorem ok_l_begin (T : Tx K mg f_lowest f_plus f_less f_times f_over f_sign_of f_compared f_l_begin f_l_take f_l_same f_l_low f_l_add f_l_mul f_l_neg f_l_fraction f_l_refused f_l_pair_right f_law C_NoParts C_BadText C_NoClaim C_NoWorth d_lowest d_plus d_less d_times d_over d_sign_of d_compared d_l_begin d_l_take d_l_same d_l_low d_l_add d_l_mul d_l_neg d_l_fraction d_l_refused d_l_pair_right d_law) : FnG P w K mg base 1 f_l_begin d_l_begin ["_law_script"] m_l_begin := FnG.of false T.F_l_begin sc_l_begin fun cdv A outer s H E hr hgu tk hp => by
  have nd := sc_l_begin.nd
  exact ss_cons (ss_set 1 nd (se_own (sn_callT call_list_of cn_list (by rfl) T.z_list b_list (sa_cons (se_sl (se_var 0) (so_no) (so_some (se_int))) (sa_nil)))))
    (ss_cons (ss_if (st_cmp (op_eqD hr.units) (nomark _) os_eq (se_var 1) (se_frz (sn_lst (sa_nil)))) (ss_one (ss_set 1 nd (se_own (sn_lst (sa_cons (se_int) (sa_nil)))))) (ss_nil))
    (ss_one (ss_ret (se_dict (sp_cons (se_str) (se_var 1) (sp_cons (se_str) (se_int) (sp_nil))) rfl rfl (fun z => nomatch z) (by decide)))))
theorem ok_l_take (T : Tx K mg f_lowest f_plus f_less f_times f_over f_sign_of f_compared f_l_begin f_l_take f_l_same f_l_low f_l_add f_l_mul f_l_neg f_l_fraction f_l_refused f_l_pair_right f_law C_NoParts C_BadText C_NoClaim C_NoWorth d_lowest d_plus d_less d_times d_over d_sign_of d_compared d_l_begin d_l_take d_l_same d_l_low d_l_add d_l_mul d_l_neg d_l_fraction d_l_refused d_l_pair_right d_law) : FnG P w K mg base 1 f_l_take d_l_take ["_law_box", "_law_size"] m_l_take := FnG.of false T.F_l_take sc_l_take fun cdv A outer s H E hr hgu tk hp => by
  have nd := sc_l_take.nd
  exact ss_cons (ss_set 2 nd (se_op op_add4 os_add (se_dget (hu_of hr) (se_var 0) (se_str) (fun _ _ => rfl)) (se_int)))
    (ss_cons (ss_dput (hu_of hr) (se_var 0) (se_str) (se_var 2) (by rfl))
    (ss_cons (ss_set 3 nd (se_op op_mod os_mod (se_var 2) (se_callB call_len cs_len (by rfl) T.z_len b_len (sa_cons (se_dget (hu_of hr) (se_var 0) (se_str) (fun _ _ => rfl)) (sa_nil)))))
    (ss_cons (ss_set 4 nd (se_ix (se_dget (hu_of hr) (se_var 0) (se_str) (fun _ _ => rfl)) (se_var 3) (fun _ _ => rfl)))
    (ss_cons (ss_if (st_cmp op_ge (nomark _) (os_cmp (f := fun i j => decide (j ≤ i))) (se_var 4) (se_op op_pow os_pow (se_int) (se_int))) (ss_cons (ss_asg (se_callB call_divmodW cs_divmod (by rfl) T.z_divmod b_divmod (sa_cons (se_var 4) (sa_cons (se_var 1) (sa_nil)))) (sg_seq rfl (sg_cons (sg_subL (S := fun _ => True) (W := (WE' E)) (se_dget (hu_of hr) (se_var 0) (se_str) (fun _ _ => rfl)) (se_var 3) (pg_sub (se_dget (hu_of hr) (se_var 0) (se_str) (fun _ _ => rfl)) (se_var 3) set_list)) (sg_cons (sg_name (S := fun _ => True) 7 nd) (sg_nil)))))
    (ss_one (ss_ret (se_var 7)))) (ss_nil))
    (ss_cons (ss_set 5 nd (se_op op_add4 os_add (se_op op_mod os_mod (se_var 4) (se_int)) (se_op op_mul2 os_mul (se_op op_mod os_mod (se_op op_fdivW os_div (se_var 4) (se_int)) (se_int)) (se_int))))
    (ss_cons (ss_set 6 nd (se_op op_mod os_mod (se_op op_mul2 os_mul (se_op op_add4 os_add (se_op op_add4 os_add (se_var 5) (se_op op_mul2 os_mul (se_op op_mul2 os_mul (se_var 2) (se_var 2)) (se_int))) (se_int)) (se_int)) (se_int)))
    (ss_cons (ss_set 6 nd (se_op op_mod os_mod (se_op op_mul2 os_mul (se_var 6) (se_var 6)) (se_int)))
    (ss_one (ss_ret (se_op op_mod os_mod (se_op op_fdivW os_div (se_op op_mod os_mod (se_op op_mul2 os_mul (se_op op_add4 os_add (se_var 6) (se_op op_mul2 os_mul (se_var 2) (se_int))) (se_int)) (se_int)) (se_int)) (se_var 1)))))))))))
theorem ok_l_same (T : Tx K mg f_lowest f_plus f_less f_times f_over f_sign_of f_compared f_l_begin f_l_take f_l_same f_l_low f_l_add f_l_mul f_l_neg f_l_fraction f_l_refused f_l_pair_right f_law C_NoParts C_BadText C_NoClaim C_NoWorth d_lowest d_plus d_less d_times d_over d_sign_of d_compared d_l_begin d_l_take d_l_same d_l_low d_l_add d_l_mul d_l_neg d_l_fraction d_l_refused d_l_pair_right d_law) : ∀ n, FnG P w K mg base (1 + n) f_l_same d_l_same ["_law_found", "_law_due"] (m_l_same n)
  | 0 => FnG.nothing
  | n + 1 => by
    have ih := ok_l_same T n
    refine FnG.of false T.F_l_same sc_l_same fun cdv A outer s H E hr hgu tk hp => ?_
    have nd := sc_l_same.nd
    exact ss_cons (ss_if (st_val (se_isaL (ns := ["list", "tuple"]) (by rfl) T.z_isinstance b_isinstance (se_var 1) (pa_cons (tc_ty (by rfl) T.z_list b_list) (pa_cons (tc_ty (by rfl) T.z_tuple b_tuple) (pa_nil))) (fun _ _ _ h => h) (by decide))) (ss_cons (ss_if (PW.pt (st_or (st_cmp (op_neD hr.units) (nomark _) os_ne (se_isa (by rfl) T.z_isinstance b_isinstance (se_var 0) (tc_ty (by rfl) T.z_list b_list)) (se_isa (by rfl) T.z_isinstance b_isinstance (se_var 1) (tc_ty (by rfl) T.z_list b_list))) (st_or1 (st_cmp (op_neD hr.units) (nomark _) os_ne (se_isa (by rfl) T.z_isinstance b_isinstance (se_var 0) (tc_ty (by rfl) T.z_tuple b_tuple)) (se_isa (by rfl) T.z_isinstance b_isinstance (se_var 1) (tc_ty (by rfl) T.z_tuple b_tuple)))))) (ss_one (ss_ret (se_bl))) (ss_nil))
        (ss_one (ss_ret (se_and (se_cmp (op_eqD hr.units) (nomark _) os_eq (se_callB call_len cs_len (by rfl) T.z_len b_len (sa_cons (se_var 0) (sa_nil))) (se_callB call_len cs_len (by rfl) T.z_len b_len (sa_cons (se_var 1) (sa_nil)))) (se_one (se_callB (cr_all rfl) cs_all (by rfl) T.z_all b_all (sa_cons (se_frz (sn_lc (own' := [("_law_one", 2), ("_law_other", 3)]) rfl nd (si_zipA (by rfl) T.z_zip (sa_cons (se_var 0) (sa_cons (se_var 1) (sa_nil)))) (blkOk_by (N := ["_law_found", "_law_due", "_law_one", "_law_other"]) (sc := defScope s_l_same) (own := [("_law_one", 2), ("_law_other", 3)]) (by decide +kernel)) (fun _ _ _ _ _ => sg_seq rfl (sg_cons (sg_name (S := (· ∈ [2, 3])) 2 nd) (sg_cons (sg_name (S := (· ∈ [2, 3])) 3 nd) (sg_nil)))) (fun _ _ _ _ _ => sl_no) (fun _ _ _ _ _ => se_call (ih) (hr.mono lev_self) hgu L2.takes0 (by rfl) T.g_l_same T.F_l_same.kp T.b_l_same (sa_cons (se_var 2) (sa_cons (se_var 3) (sa_nil)))))) (sa_nil)))))))) (ss_nil))
        (ss_cons (ss_if (PW.pt (st_or (st_cmp op_isN (nomark _) os_isN (se_var 1) (se_non)) (st_or1 (st_val (se_isaL (ns := ["bool", "str"]) (by rfl) T.z_isinstance b_isinstance (se_var 1) (pa_cons (tc_ty (by rfl) T.z_bool b_bool) (pa_cons (tc_ty (by rfl) T.z_str b_str) (pa_nil))) (fun _ _ _ h => h) (by decide)))))) (ss_one (ss_ret (se_and (se_cmp (op_eqD hr.units) (nomark _) os_eq (se_var 0) (se_var 1)) (se_and (se_cmp (op_eqD hr.units) (nomark _) os_eq (se_isa (by rfl) T.z_isinstance b_isinstance (se_var 0) (tc_ty (by rfl) T.z_bool b_bool)) (se_isa (by rfl) T.z_isinstance b_isinstance (se_var 1) (tc_ty (by rfl) T.z_bool b_bool))) (se_one (se_cmp (op_eqD hr.units) (nomark _) os_eq (se_cmp op_isN (nomark _) os_isN (se_var 0) (se_non)) (se_cmp op_isN (nomark _) os_isN (se_var 1) (se_non)))))))) (ss_nil))
        (ss_one (ss_ret (se_and (se_isa (by rfl) T.z_isinstance b_isinstance (se_var 0) (tc_ty (by rfl) T.z_int b_int)) (se_and (se_not (se_isa (by rfl) T.z_isinstance b_isinstance (se_var 0) (tc_ty (by rfl) T.z_bool b_bool))) (se_one (se_cmp (op_eqD hr.units) (nomark _) os_eq (se_var 0) (se_var 1))))))))
theorem ok_l_low (T : Tx K mg f_lowest f_plus f_less f_times f_over f_sign_of f_compared f_l_begin f_l_take f_l_same f_l_low f_l_add f_l_mul f_l_neg f_l_fraction f_l_refused f_l_pair_right f_law C_NoParts C_BadText C_NoClaim C_NoWorth d_lowest d_plus d_less d_times d_over d_sign_of d_compared d_l_begin d_l_take d_l_same d_l_low d_l_add d_l_mul d_l_neg d_l_fraction d_l_refused d_l_pair_right d_law) : FnG P w K mg base 1 f_l_low d_l_low ["_law_top", "_law_bottom"] m_l_low := FnG.of false T.F_l_low sc_l_low fun cdv A outer s H E hr hgu tk hp => by
  have nd := sc_l_low.nd
  exact ss_cons (PS.imp (ps_par (i := 2) (j := 3) rfl nd rfl rfl (by decide) rfl rfl (sa_cons (se_callB call_abs cs_abs (by rfl) T.z_abs b_abs (sa_cons (se_var 0) (sa_nil))) (sa_cons (se_callB call_abs cs_abs (by rfl) T.z_abs b_abs (sa_cons (se_var 1) (sa_nil))) (sa_nil))) (by rfl)) (fun _ _ _ h => par_of h))
    (ss_cons (ss_for hp rfl (si_range1 (by rfl) T.z_range (sa_cons (se_int) (sa_nil)) rfl len_a1) (sg_name (S := fun _ => True) 4 nd) (ss_cons (ss_if (st_cmp (op_eqD hr.units) (nomark _) os_eq (se_var 3) (se_int)) (ss_cons (ss_set 5 nd (se_if (st_cmp op_gt (nomark _) (os_cmp (f := fun i j => decide (j < i))) (se_var 1) (se_int)) (se_int) (se_un un_neg us_neg (se_int))))
    (ss_one (ss_ret (se_tup (sa_cons (se_op op_fdivW os_div (se_op op_mul2 os_mul (se_var 5) (se_var 0)) (se_var 2)) (sa_cons (se_op op_fdivW os_div (se_op op_mul2 os_mul (se_var 5) (se_var 1)) (se_var 2)) (sa_nil))))))) (ss_nil))
    (ss_one (PS.imp (ps_par (i := 2) (j := 3) rfl nd rfl rfl (by decide) rfl rfl (sa_cons (se_var 3) (sa_cons (se_op op_mod os_mod (se_var 2) (se_var 3)) (sa_nil))) (by rfl)) (fun _ _ _ h => par_of h)))))
    (ss_one (ss_ret (se_non))))
theorem ok_l_add (T : Tx K mg f_lowest f_plus f_less f_times f_over f_sign_of f_compared f_l_begin f_l_take f_l_same f_l_low f_l_add f_l_mul f_l_neg f_l_fraction f_l_refused f_l_pair_right f_law C_NoParts C_BadText C_NoClaim C_NoWorth d_lowest d_plus d_less d_times d_over d_sign_of d_compared d_l_begin d_l_take d_l_same d_l_low d_l_add d_l_mul d_l_neg d_l_fraction d_l_refused d_l_pair_right d_law) : FnG P w K mg base 2 f_l_add d_l_add ["_law_one", "_law_two"] m_l_add := FnG.of false T.F_l_add sc_l_add fun cdv A outer s H E hr hgu tk hp => by
  have nd := sc_l_add.nd
  exact ss_one (ss_ret (se_call (ok_l_low T) (hr.mono (by decide)) hgu tk (by rfl) T.g_l_low T.F_l_low.kp T.b_l_low (sa_cons (se_op op_add4 os_add (se_op op_mul2 os_mul (se_ix (se_var 0) (se_int) (fun _ _ => rfl)) (se_ix (se_var 1) (se_int) (fun _ _ => rfl))) (se_op op_mul2 os_mul (se_ix (se_var 1) (se_int) (fun _ _ => rfl)) (se_ix (se_var 0) (se_int) (fun _ _ => rfl)))) (sa_cons (se_op op_mul2 os_mul (se_ix (se_var 0) (se_int) (fun _ _ => rfl)) (se_ix (se_var 1) (se_int) (fun _ _ => rfl))) (sa_nil)))))
theorem ok_l_mul (T : Tx K mg f_lowest f_plus f_less f_times f_over f_sign_of f_compared f_l_begin f_l_take f_l_same f_l_low f_l_add f_l_mul f_l_neg f_l_fraction f_l_refused f_l_pair_right f_law C_NoParts C_BadText C_NoClaim C_NoWorth d_lowest d_plus d_less d_times d_over d_sign_of d_compared d_l_begin d_l_take d_l_same d_l_low d_l_add d_l_mul d_l_neg d_l_fraction d_l_refused d_l_pair_right d_law) : FnG P w K mg base 2 f_l_mul d_l_mul ["_law_one", "_law_two"] m_l_mul := FnG.of false T.F_l_mul sc_l_mul fun cdv A outer s H E hr hgu tk hp => by
  have nd := sc_l_mul.nd
  exact ss_one (ss_ret (se_call (ok_l_low T) (hr.mono (by decide)) hgu tk (by rfl) T.g_l_low T.F_l_low.kp T.b_l_low (sa_cons (se_op op_mul2 os_mul (se_ix (se_var 0) (se_int) (fun _ _ => rfl)) (se_ix (se_var 1) (se_int) (fun _ _ => rfl))) (sa_cons (se_op op_mul2 os_mul (se_ix (se_var 0) (se_int) (fun _ _ => rfl)) (se_ix (se_var 1) (se_int) (fun _ _ => rfl))) (sa_nil)))))
theorem ok_l_neg (T : Tx K mg f_lowest f_plus f_less f_times f_over f_sign_of f_compared f_l_begin f_l_take f_l_same f_l_low f_l_add f_l_mul f_l_neg f_l_fraction f_l_refused f_l_pair_right f_law C_NoParts C_BadText C_NoClaim C_NoWorth d_lowest d_plus d_less d_times d_over d_sign_of d_compared d_l_begin d_l_take d_l_same d_l_low d_l_add d_l_mul d_l_neg d_l_fraction d_l_refused d_l_pair_right d_law) : FnG P w K mg base 1 f_l_neg d_l_neg ["_law_one"] m_l_neg := FnG.of false T.F_l_neg sc_l_neg fun cdv A outer s H E hr hgu tk hp => by
  have nd := sc_l_neg.nd
  exact ss_one (ss_ret (se_tup (sa_cons (se_op op_sub os_sub (se_int) (se_ix (se_var 0) (se_int) (fun _ _ => rfl))) (sa_cons (se_ix (se_var 0) (se_int) (fun _ _ => rfl)) (sa_nil)))))
theorem ok_l_fraction (T : Tx K mg f_lowest f_plus f_less f_times f_over f_sign_of f_compared f_l_begin f_l_take f_l_same f_l_low f_l_add f_l_mul f_l_neg f_l_fraction f_l_refused f_l_pair_right f_law C_NoParts C_BadText C_NoClaim C_NoWorth d_lowest d_plus d_less d_times d_over d_sign_of d_compared d_l_begin d_l_take d_l_same d_l_low d_l_add d_l_mul d_l_neg d_l_fraction d_l_refused d_l_pair_right d_law) : FnG P w K mg base 2 f_l_fraction d_l_fraction ["_law_box"] m_l_fraction := FnG.of false T.F_l_fraction sc_l_fraction fun cdv A outer s H E hr hgu tk hp => by
  have nd := sc_l_fraction.nd
  exact ss_cons (ss_set 1 nd (se_call (ok_l_take T) (hr.mono (by decide)) hgu tk (by rfl) T.g_l_take T.F_l_take.kp T.b_l_take (sa_cons (se_var 0) (sa_cons (se_int) (sa_nil)))))
    (ss_cons (ss_if (st_cmp (op_eqD hr.units) (nomark _) os_eq (se_var 1) (se_int)) (ss_one (ss_ret (se_call (ok_l_low T) (hr.mono (by decide)) hgu tk (by rfl) T.g_l_low T.F_l_low.kp T.b_l_low (sa_cons (se_op op_sub os_sub (se_call (ok_l_take T) (hr.mono (by decide)) hgu tk (by rfl) T.g_l_take T.F_l_take.kp T.b_l_take (sa_cons (se_var 0) (sa_cons (se_op op_add4 os_add (se_op op_mul2 os_mul (se_int) (se_op op_pow os_pow (se_int) (se_int))) (se_int)) (sa_nil)))) (se_op op_pow os_pow (se_int) (se_int))) (sa_cons (se_op op_add4 os_add (se_int) (se_call (ok_l_take T) (hr.mono (by decide)) hgu tk (by rfl) T.g_l_take T.F_l_take.kp T.b_l_take (sa_cons (se_var 0) (sa_cons (se_op op_pow os_pow (se_int) (se_int)) (sa_nil))))) (sa_nil)))))) (ss_nil))
    (ss_one (ss_ret (se_call (ok_l_low T) (hr.mono (by decide)) hgu tk (by rfl) T.g_l_low T.F_l_low.kp T.b_l_low (sa_cons (se_op op_sub os_sub (se_call (ok_l_take T) (hr.mono (by decide)) hgu tk (by rfl) T.g_l_take T.F_l_take.kp T.b_l_take (sa_cons (se_var 0) (sa_cons (se_int) (sa_nil)))) (se_int)) (sa_cons (se_ix (se_frz (sn_lst (sa_cons (se_int) (sa_cons (se_int) (sa_cons (se_int) (sa_cons (se_int) (sa_cons (se_int) (sa_cons (se_int) (sa_cons (se_int) (sa_nil)))))))))) (se_op op_sub os_sub (se_var 1) (se_int)) (fun _ _ => rfl)) (sa_nil)))))))
theorem ok_l_refused (T : Tx K mg f_lowest f_plus f_less f_times f_over f_sign_of f_compared f_l_begin f_l_take f_l_same f_l_low f_l_add f_l_mul f_l_neg f_l_fraction f_l_refused f_l_pair_right f_law C_NoParts C_BadText C_NoClaim C_NoWorth d_lowest d_plus d_less d_times d_over d_sign_of d_compared d_l_begin d_l_take d_l_same d_l_low d_l_add d_l_mul d_l_neg d_l_fraction d_l_refused d_l_pair_right d_law) : FnG P w K mg base 3 f_l_refused d_l_refused ["_law_way", "_law_one", "_law_two"] m_l_refused := FnG.of false T.F_l_refused sc_l_refused fun cdv A outer s H E hr hgu tk hp => by
  have nd := sc_l_refused.nd
  exact ss_cons (ss_set 3 nd (se_non))
    (ss_caught (i := 4) (j := 3) (u1 := (.ref C_NoParts)) (u2 := (.type "ZeroDivisionError")) rfl rfl rfl nd (by rfl) (by rfl) (by rfl) (by rfl) (by decide) (suite_keep (i := 4) (j := 3) nd (by rfl) (.inl rfl) (by rfl) (.inl rfl) rfl) (clause_four (by rfl) T.gx_NoParts (by rfl) T.gx_BadText (by rfl) T.gx_NoClaim (by rfl) T.gx_NoWorth)
    (ps_two (by rfl) T.z_isinstance (by rfl) (.inl rfl) (by decide) (by decide) (tc_own (by rfl) T.gx_NoParts) (.own _) (tc_ty (by rfl) T.z_ZeroDivisionError (by decide +kernel)) (.ty _)) (kit_non T.xd_NoParts T.xt_NoParts T.xn_NoParts) (hc_one (T := fun cls => PySem.W.exmAny K cls [.ref C_NoParts, .ref C_BadText, .ref C_NoClaim, .ref C_NoWorth] = some true) (R := "NoParts") (b1 := true) (b2 := true) T.gx_NoParts (exm_four (PySem.W.exm_ref T.xb_NoParts T.xd_NoParts T.xt_NoParts T.xs_NoParts_NoParts) (PySem.W.exm_ref T.xb_BadText T.xd_BadText T.xt_BadText T.xs_NoParts_BadText) (PySem.W.exm_ref T.xb_NoClaim T.xd_NoClaim T.xt_NoClaim T.xs_NoParts_NoClaim) (PySem.W.exm_ref T.xb_NoWorth T.xd_NoWorth T.xt_NoWorth T.xs_NoParts_NoWorth) (by rfl)) ⟨T.xa0_NoParts, T.xa1_NoParts, T.xa2_NoParts, T.xa3_NoParts, T.xa4_NoParts, T.xa5_NoParts, T.xa6_NoParts, T.xa7_NoParts⟩ kit_self (kit_typ (by decide +kernel) T.xi_NoParts_ZeroDivisionError))
    (fun W' qn xe tk' hp' => ss_one (ss_if (st_cmp (op_eqD hr.units) (nomark _) os_eq (se_var 0) (se_int)) (ss_one (ss_drop (se_call (ok_over T) (hr.mono (by decide)) hgu tk' (by rfl) T.g_over T.F_over.kp T.b_over (sa_cons (se_var 1) (sa_cons (se_var 2) (sa_nil)))))) (ss_one (ss_drop (se_call (ok_lowest T) (hr.mono (by decide)) hgu tk' (by rfl) T.g_lowest T.F_lowest.kp T.b_lowest (sa_cons (se_var 1) (sa_cons (se_var 2) (sa_nil)))))))))
theorem ok_l_pair_right (T : Tx K mg f_lowest f_plus f_less f_times f_over f_sign_of f_compared f_l_begin f_l_take f_l_same f_l_low f_l_add f_l_mul f_l_neg f_l_fraction f_l_refused f_l_pair_right f_law C_NoParts C_BadText C_NoClaim C_NoWorth d_lowest d_plus d_less d_times d_over d_sign_of d_compared d_l_begin d_l_take d_l_same d_l_low d_l_add d_l_mul d_l_neg d_l_fraction d_l_refused d_l_pair_right d_law) : FnG P w K mg base 8 f_l_pair_right d_l_pair_right ["_law_one", "_law_two"] m_l_pair_right := FnG.of false T.F_l_pair_right sc_l_pair_right fun cdv A outer s H E hr hgu tk hp => by
  have nd := sc_l_pair_right.nd
  exact ss_cons (PS.imp (ps_par (i := 2) (j := 3) rfl nd rfl rfl (by decide) rfl rfl (sa_cons (se_callB (call_reprD hgu hr.u66) cs_repr (by rfl) T.z_repr b_repr (sa_cons (se_frz (sn_lst (sa_cons (se_var 0) (sa_cons (se_var 1) (sa_nil))))) (sa_nil))) (sa_cons (se_call (ok_l_add T) (hr.mono (by decide)) hgu tk (by rfl) T.g_l_add T.F_l_add.kp T.b_l_add (sa_cons (se_var 0) (sa_cons (se_call (ok_l_neg T) (hr.mono (by decide)) hgu tk (by rfl) T.g_l_neg T.F_l_neg.kp T.b_l_neg (sa_cons (se_var 1) (sa_nil))) (sa_nil)))) (sa_nil))) (by rfl)) (fun _ _ _ h => par_of h))
    (ss_fz (j := 4) (ss_set 4 nd (se_own (sn_lst (sa_cons (se_call (ok_l_add T) (hr.mono (by decide)) hgu tk (by rfl) T.g_l_add T.F_l_add.kp T.b_l_add (sa_cons (se_var 0) (sa_cons (se_var 1) (sa_nil)))) (sa_cons (se_var 3) (sa_cons (se_call (ok_l_mul T) (hr.mono (by decide)) hgu tk (by rfl) T.g_l_mul T.F_l_mul.kp T.b_l_mul (sa_cons (se_var 0) (sa_cons (se_var 1) (sa_nil)))) (sa_cons (se_op op_sub os_sub (se_callT call_int1 cs_int (by rfl) T.z_int b_int (sa_cons (se_cmp op_gt (nomark _) (os_cmp (f := fun i j => decide (j < i))) (se_ix (se_var 0) (se_int) (fun _ _ => rfl)) (se_int)) (sa_nil))) (se_callT call_int1 cs_int (by rfl) T.z_int b_int (sa_cons (se_cmp op_lt (nomark _) (os_cmp (f := fun i j => decide (i < j))) (se_ix (se_var 0) (se_int) (fun _ _ => rfl)) (se_int)) (sa_nil)))) (sa_nil))))))))
    (PS.imp (ps_expr (pe_bm PySem.F.plainAttrs_list PySem.F.slot_list_append PySem.F.type_list_append mt_append (se_var 4) (sa_cons (se_op op_sub os_sub (se_callT call_int1 cs_int (by rfl) T.z_int b_int (sa_cons (se_cmp op_gt (nomark _) (os_cmp (f := fun i j => decide (j < i))) (se_ix (se_var 3) (se_int) (fun _ _ => rfl)) (se_int)) (sa_nil))) (se_callT call_int1 cs_int (by rfl) T.z_int b_int (sa_cons (se_cmp op_lt (nomark _) (os_cmp (f := fun i j => decide (i < j))) (se_ix (se_var 3) (se_int) (fun _ _ => rfl)) (se_int)) (sa_nil)))) sa_nil))) (fun _ _ _ h => app_of h))
    (ss_cons (ss_set 5 nd (se_frz (sn_lst (sa_cons (se_call (ok_plus T) (hr.mono (by decide)) hgu tk (by rfl) T.g_plus T.F_plus.kp T.b_plus (sa_cons (se_var 0) (sa_cons (se_var 1) (sa_nil)))) (sa_cons (se_call (ok_less T) (hr.mono (by decide)) hgu tk (by rfl) T.g_less T.F_less.kp T.b_less (sa_cons (se_var 0) (sa_cons (se_var 1) (sa_nil)))) (sa_cons (se_call (ok_times T) (hr.mono (by decide)) hgu tk (by rfl) T.g_times T.F_times.kp T.b_times (sa_cons (se_var 0) (sa_cons (se_var 1) (sa_nil)))) (sa_cons (se_call (ok_sign_of T) (hr.mono (by decide)) hgu tk (by rfl) T.g_sign_of T.F_sign_of.kp T.b_sign_of (sa_cons (se_var 0) (sa_nil))) (sa_cons (se_call (ok_compared T) (hr.mono (by decide)) hgu tk (by rfl) T.g_compared T.F_compared.kp T.b_compared (sa_cons (se_var 0) (sa_cons (se_var 1) (sa_nil)))) (sa_nil)))))))))
    (ss_cons (ss_set 6 nd (se_frz (sn_lst (sa_cons (se_frz (sn_callT call_list_of cn_list (by rfl) T.z_list b_list (sa_cons (se_var 0) (sa_nil)))) (sa_cons (se_frz (sn_callT call_list_of cn_list (by rfl) T.z_list b_list (sa_cons (se_var 1) (sa_nil)))) (sa_nil))))))
    (ss_cons (ss_set 7 nd (se_frz (sn_lst (sa_cons (se_call (ok_plus T) (hr.mono (by decide)) hgu tk (by rfl) T.g_plus T.F_plus.kp T.b_plus (sa_cons (se_ix (se_var 6) (se_int) (fun _ _ => rfl)) (sa_cons (se_ix (se_var 6) (se_int) (fun _ _ => rfl)) (sa_nil)))) (sa_cons (se_call (ok_less T) (hr.mono (by decide)) hgu tk (by rfl) T.g_less T.F_less.kp T.b_less (sa_cons (se_ix (se_var 6) (se_int) (fun _ _ => rfl)) (sa_cons (se_ix (se_var 6) (se_int) (fun _ _ => rfl)) (sa_nil)))) (sa_cons (se_call (ok_times T) (hr.mono (by decide)) hgu tk (by rfl) T.g_times T.F_times.kp T.b_times (sa_cons (se_ix (se_var 6) (se_int) (fun _ _ => rfl)) (sa_cons (se_ix (se_var 6) (se_int) (fun _ _ => rfl)) (sa_nil)))) (sa_nil)))))))
    (ss_cons (ss_set 7 nd (se_op op_add4 os_add (se_var 7) (se_frz (sn_lst (sa_cons (se_call (ok_sign_of T) (hr.mono (by decide)) hgu tk (by rfl) T.g_sign_of T.F_sign_of.kp T.b_sign_of (sa_cons (se_ix (se_var 6) (se_int) (fun _ _ => rfl)) (sa_nil))) (sa_cons (se_call (ok_compared T) (hr.mono (by decide)) hgu tk (by rfl) T.g_compared T.F_compared.kp T.b_compared (sa_cons (se_ix (se_var 6) (se_int) (fun _ _ => rfl)) (sa_cons (se_ix (se_var 6) (se_int) (fun _ _ => rfl)) (sa_nil)))) (sa_nil)))))))
    (ss_cons (ss_if (st_not (st_val (se_call (ok_l_same T 6) (hr.mono (by decide)) hgu tk (by rfl) T.g_l_same T.F_l_same.kp T.b_l_same (sa_cons (se_frz (sn_lst (sa_cons (se_var 5) (sa_cons (se_var 7) (sa_cons (se_frz (sn_lst (sa_cons (se_call (ok_plus T) (hr.mono (by decide)) hgu tk (by rfl) T.g_plus T.F_plus.kp T.b_plus (sa_cons (se_var 1) (sa_cons (se_var 0) (sa_nil)))) (sa_cons (se_call (ok_times T) (hr.mono (by decide)) hgu tk (by rfl) T.g_times T.F_times.kp T.b_times (sa_cons (se_var 1) (sa_cons (se_var 0) (sa_nil)))) (sa_nil))))) (sa_nil)))))) (sa_cons (se_frz (sn_lst (sa_cons (se_var 4) (sa_cons (se_var 4) (sa_cons (se_frz (sn_lst (sa_cons (se_ix (se_var 4) (se_int) (fun _ _ => rfl)) (sa_cons (se_ix (se_var 4) (se_int) (fun _ _ => rfl)) (sa_nil))))) (sa_nil)))))) (sa_nil)))))) (ss_one (ss_ret (se_bl))) (ss_nil))
    (ss_cons (ss_if (st_cmp (op_eqD hr.units) (nomark _) os_eq (se_ix (se_var 1) (se_int) (fun _ _ => rfl)) (se_int)) (ss_one (ss_ret (se_and (se_call (ok_l_refused T) (hr.mono (by decide)) hgu tk (by rfl) T.g_l_refused T.F_l_refused.kp T.b_l_refused (sa_cons (se_int) (sa_cons (se_var 0) (sa_cons (se_var 1) (sa_nil))))) (se_one (se_call (ok_l_refused T) (hr.mono (by decide)) hgu tk (by rfl) T.g_l_refused T.F_l_refused.kp T.b_l_refused (sa_cons (se_int) (sa_cons (se_ix (se_var 6) (se_int) (fun _ _ => rfl)) (sa_cons (se_ix (se_var 6) (se_int) (fun _ _ => rfl)) (sa_nil))))))))) (ss_nil))
    (ss_cons (ss_set 8 nd (se_call (ok_l_low T) (hr.mono (by decide)) hgu tk (by rfl) T.g_l_low T.F_l_low.kp T.b_l_low (sa_cons (se_op op_mul2 os_mul (se_ix (se_var 0) (se_int) (fun _ _ => rfl)) (se_ix (se_var 1) (se_int) (fun _ _ => rfl))) (sa_cons (se_op op_mul2 os_mul (se_ix (se_var 0) (se_int) (fun _ _ => rfl)) (se_ix (se_var 1) (se_int) (fun _ _ => rfl))) (sa_nil)))))
    (ss_one (ss_ret (se_and (se_call (ok_l_same T 6) (hr.mono (by decide)) hgu tk (by rfl) T.g_l_same T.F_l_same.kp T.b_l_same (sa_cons (se_frz (sn_lst (sa_cons (se_call (ok_over T) (hr.mono (by decide)) hgu tk (by rfl) T.g_over T.F_over.kp T.b_over (sa_cons (se_var 0) (sa_cons (se_var 1) (sa_nil)))) (sa_cons (se_call (ok_over T) (hr.mono (by decide)) hgu tk (by rfl) T.g_over T.F_over.kp T.b_over (sa_cons (se_ix (se_var 6) (se_int) (fun _ _ => rfl)) (sa_cons (se_ix (se_var 6) (se_int) (fun _ _ => rfl)) (sa_nil)))) (sa_nil))))) (sa_cons (se_op op_mul2 os_mul (se_frz (sn_lst (sa_cons (se_var 8) (sa_nil)))) (se_int)) (sa_nil)))) (se_one (se_cmp (op_eqD hr.units) (nomark _) os_eq (se_callB (call_reprD hgu hr.u66) cs_repr (by rfl) T.z_repr b_repr (sa_cons (se_frz (sn_lst (sa_cons (se_var 0) (sa_cons (se_var 1) (sa_nil))))) (sa_nil))) (se_var 2))))))))))))))
theorem ok_law (T : Tx K mg f_lowest f_plus f_less f_times f_over f_sign_of f_compared f_l_begin f_l_take f_l_same f_l_low f_l_add f_l_mul f_l_neg f_l_fraction f_l_refused f_l_pair_right f_law C_NoParts C_BadText C_NoClaim C_NoWorth d_lowest d_plus d_less d_times d_over d_sign_of d_compared d_l_begin d_l_take d_l_same d_l_low d_l_add d_l_mul d_l_neg d_l_fraction d_l_refused d_l_pair_right d_law) : FnG P w K mg base 9 f_law d_law ["_law_script"] m_law := FnG.of false T.F_law sc_law fun cdv A outer s H E hr hgu tk hp => by
  have nd := sc_law.nd
  exact ss_cons (ss_set 1 nd (se_call (ok_l_begin T) (hr.mono (by decide)) hgu tk (by rfl) T.g_l_begin T.F_l_begin.kp T.b_l_begin (sa_cons (se_var 0) (sa_nil))))
    (ss_cons (ss_for hp rfl (si_range1 (by rfl) T.z_range (sa_cons (se_int) (sa_nil)) rfl len_a1) (sg_name (S := fun _ => True) 2 nd) (ss_cons (PS.imp (ps_par (i := 3) (j := 4) rfl nd rfl rfl (by decide) rfl rfl (sa_cons (se_call (ok_l_fraction T) (hr.mono (by decide)) hgu tk (by rfl) T.g_l_fraction T.F_l_fraction.kp T.b_l_fraction (sa_cons (se_var 1) (sa_nil))) (sa_cons (se_call (ok_l_fraction T) (hr.mono (by decide)) hgu tk (by rfl) T.g_l_fraction T.F_l_fraction.kp T.b_l_fraction (sa_cons (se_var 1) (sa_nil))) (sa_nil))) (by rfl)) (fun _ _ _ h => par_of h))
    (ss_cons (ss_set 4 nd (se_ix (se_frz (sn_lst (sa_cons (se_var 4) (sa_cons (se_var 3) (sa_cons (se_tup (sa_cons (se_int) (sa_cons (se_int) (sa_nil)))) (sa_cons (se_call (ok_l_neg T) (hr.mono (by decide)) hgu tk (by rfl) T.g_l_neg T.F_l_neg.kp T.b_l_neg (sa_cons (se_var 3) (sa_nil))) (sa_cons (se_var 4) (sa_cons (se_var 4) (sa_nil))))))))) (se_call (ok_l_take T) (hr.mono (by decide)) hgu tk (by rfl) T.g_l_take T.F_l_take.kp T.b_l_take (sa_cons (se_var 1) (sa_cons (se_int) (sa_nil)))) (fun _ _ => rfl)))
    (ss_cons (ss_if (PW.pt (st_or (st_not (st_val (se_call (ok_l_pair_right T) (hr.mono (by decide)) hgu tk (by rfl) T.g_l_pair_right T.F_l_pair_right.kp T.b_l_pair_right (sa_cons (se_var 3) (sa_cons (se_var 4) (sa_nil)))))) (st_or1 (st_not (st_val (se_call (ok_l_pair_right T) (hr.mono (by decide)) hgu tk (by rfl) T.g_l_pair_right T.F_l_pair_right.kp T.b_l_pair_right (sa_cons (se_var 4) (sa_cons (se_var 3) (sa_nil))))))))) (ss_one (ss_ret (se_bl))) (ss_nil))
    (ss_cons (PS.imp (ps_par (i := 5) (j := 6) rfl nd rfl rfl (by decide) rfl rfl (sa_cons (se_op op_sub os_sub (se_call (ok_l_take T) (hr.mono (by decide)) hgu tk (by rfl) T.g_l_take T.F_l_take.kp T.b_l_take (sa_cons (se_var 1) (sa_cons (se_int) (sa_nil)))) (se_int)) (sa_cons (se_op op_sub os_sub (se_call (ok_l_take T) (hr.mono (by decide)) hgu tk (by rfl) T.g_l_take T.F_l_take.kp T.b_l_take (sa_cons (se_var 1) (sa_cons (se_int) (sa_nil)))) (se_int)) (sa_nil))) (by rfl)) (fun _ _ _ h => par_of h))
    (ss_one (ss_if (st_cmp (op_eqD hr.units) (nomark _) os_eq (se_var 6) (se_int)) (ss_one (ss_if (st_not (st_val (se_call (ok_l_refused T) (hr.mono (by decide)) hgu tk (by rfl) T.g_l_refused T.F_l_refused.kp T.b_l_refused (sa_cons (se_int) (sa_cons (se_var 5) (sa_cons (se_int) (sa_nil))))))) (ss_one (ss_ret (se_bl))) (ss_nil))) (ss_one (ss_if (st_not (st_val (se_call (ok_l_same T 6) (hr.mono (by decide)) hgu tk (by rfl) T.g_l_same T.F_l_same.kp T.b_l_same (sa_cons (se_call (ok_lowest T) (hr.mono (by decide)) hgu tk (by rfl) T.g_lowest T.F_lowest.kp T.b_lowest (sa_cons (se_var 5) (sa_cons (se_var 6) (sa_nil)))) (sa_cons (se_call (ok_l_low T) (hr.mono (by decide)) hgu tk (by rfl) T.g_l_low T.F_l_low.kp T.b_l_low (sa_cons (se_var 5) (sa_cons (se_var 6) (sa_nil)))) (sa_nil)))))) (ss_one (ss_ret (se_bl))) (ss_nil))))))))))
    (ss_one (ss_ret (se_call (ok_l_same T 6) (hr.mono (by decide)) hgu tk (by rfl) T.g_l_same T.F_l_same.kp T.b_l_same (sa_cons (se_frz (sn_lst (sa_cons (se_call (ok_lowest T) (hr.mono (by decide)) hgu tk (by rfl) T.g_lowest T.F_lowest.kp T.b_lowest (sa_cons (se_int) (sa_cons (se_un un_neg us_neg (se_int)) (sa_nil)))) (sa_cons (se_call (ok_lowest T) (hr.mono (by decide)) hgu tk (by rfl) T.g_lowest T.F_lowest.kp T.b_lowest (sa_cons (se_un un_neg us_neg (se_int)) (sa_cons (se_un un_neg us_neg (se_int)) (sa_nil)))) (sa_cons (se_call (ok_lowest T) (hr.mono (by decide)) hgu tk (by rfl) T.g_lowest T.F_lowest.kp T.b_lowest (sa_cons (se_op op_pow os_pow (se_int) (se_int)) (sa_cons (se_un un_neg us_neg (se_op op_pow os_pow (se_int) (se_int))) (sa_nil)))) (sa_nil)))))) (sa_cons (se_frz (sn_lst (sa_cons (se_tup (sa_cons (se_int) (sa_cons (se_int) (sa_nil)))) (sa_cons (se_tup (sa_cons (se_int) (sa_cons (se_int) (sa_nil)))) (sa_cons (se_tup (sa_cons (se_un un_neg us_neg (se_int)) (sa_cons (se_int) (sa_nil)))) (sa_nil)))))) (sa_nil)))))))
end
theorem all_mk {P : Program} {w : World} {K : PySem.W.Frag} {h : Heap} {mg : Str → Option Value} {fa f_lowest f_plus f_less f_times f_over f_sign_of f_compared f_l_begin f_l_take f_l_same f_l_low f_l_add f_l_mul f_l_neg f_l_fraction f_l_refused f_l_pair_right f_law C_NoParts C_BadText C_NoClaim C_NoWorth : Addr} (X : K.In h) (G : h.Ns mainGlobals mg) (hfa : mg "law" = some (.ref fa))
    {oc0 kV0 dc0 pm0 cd0 ct0 : Value} {od0 an0 : Option Addr} {sl0 : Array (Option Value)}
    {oc1 kV1 dc1 pm1 cd1 ct1 : Value} {od1 an1 : Option Addr} {sl1 : Array (Option Value)}
    {oc2 kV2 dc2 pm2 cd2 ct2 : Value} {od2 an2 : Option Addr} {sl2 : Array (Option Value)}
    {oc3 kV3 dc3 pm3 cd3 ct3 : Value} {od3 an3 : Option Addr} {sl3 : Array (Option Value)}
    {oc4 kV4 dc4 pm4 cd4 ct4 : Value} {od4 an4 : Option Addr} {sl4 : Array (Option Value)}
    {oc5 kV5 dc5 pm5 cd5 ct5 : Value} {od5 an5 : Option Addr} {sl5 : Array (Option Value)}
    {oc6 kV6 dc6 pm6 cd6 ct6 : Value} {od6 an6 : Option Addr} {sl6 : Array (Option Value)}
    {oc7 kV7 dc7 pm7 cd7 ct7 : Value} {od7 an7 : Option Addr} {sl7 : Array (Option Value)}
    {oc8 kV8 dc8 pm8 cd8 ct8 : Value} {od8 an8 : Option Addr} {sl8 : Array (Option Value)}
    {oc9 kV9 dc9 pm9 cd9 ct9 : Value} {od9 an9 : Option Addr} {sl9 : Array (Option Value)}
    {oc10 kV10 dc10 pm10 cd10 ct10 : Value} {od10 an10 : Option Addr} {sl10 : Array (Option Value)}
    {oc11 kV11 dc11 pm11 cd11 ct11 : Value} {od11 an11 : Option Addr} {sl11 : Array (Option Value)}
    {oc12 kV12 dc12 pm12 cd12 ct12 : Value} {od12 an12 : Option Addr} {sl12 : Array (Option Value)}
    {oc13 kV13 dc13 pm13 cd13 ct13 : Value} {od13 an13 : Option Addr} {sl13 : Array (Option Value)}
    {oc14 kV14 dc14 pm14 cd14 ct14 : Value} {od14 an14 : Option Addr} {sl14 : Array (Option Value)}
    {oc15 kV15 dc15 pm15 cd15 ct15 : Value} {od15 an15 : Option Addr} {sl15 : Array (Option Value)}
    {oc16 kV16 dc16 pm16 cd16 ct16 : Value} {od16 an16 : Option Addr} {sl16 : Array (Option Value)}
    {oc17 kV17 dc17 pm17 cd17 ct17 : Value} {od17 an17 : Option Addr} {sl17 : Array (Option Value)}
    (a0 : PySem.W.nsIn K mainGlobals "lowest" = some (some (.ref f_lowest))) (l0 : K.lookup f_lowest = some ⟨oc0, od0, .func (PySem.W.fnOf "lowest" "lowest" (defArgs s_lowest) (defBody s_lowest) (defScope s_lowest) .none kV0 dc0 pm0 an0 cd0 ct0), sl0⟩) (c0 : PySem.W.codeIn K cd0 "lowest" = true) (k0 : PySem.W.keepIn K (.ref f_lowest) = true)
    (a1 : PySem.W.nsIn K mainGlobals "plus" = some (some (.ref f_plus))) (l1 : K.lookup f_plus = some ⟨oc1, od1, .func (PySem.W.fnOf "plus" "plus" (defArgs s_plus) (defBody s_plus) (defScope s_plus) .none kV1 dc1 pm1 an1 cd1 ct1), sl1⟩) (c1 : PySem.W.codeIn K cd1 "plus" = true) (k1 : PySem.W.keepIn K (.ref f_plus) = true)
    (a2 : PySem.W.nsIn K mainGlobals "less" = some (some (.ref f_less))) (l2 : K.lookup f_less = some ⟨oc2, od2, .func (PySem.W.fnOf "less" "less" (defArgs s_less) (defBody s_less) (defScope s_less) .none kV2 dc2 pm2 an2 cd2 ct2), sl2⟩) (c2 : PySem.W.codeIn K cd2 "less" = true) (k2 : PySem.W.keepIn K (.ref f_less) = true)
    (a3 : PySem.W.nsIn K mainGlobals "times" = some (some (.ref f_times))) (l3 : K.lookup f_times = some ⟨oc3, od3, .func (PySem.W.fnOf "times" "times" (defArgs s_times) (defBody s_times) (defScope s_times) .none kV3 dc3 pm3 an3 cd3 ct3), sl3⟩) (c3 : PySem.W.codeIn K cd3 "times" = true) (k3 : PySem.W.keepIn K (.ref f_times) = true)
    (a4 : PySem.W.nsIn K mainGlobals "over" = some (some (.ref f_over))) (l4 : K.lookup f_over = some ⟨oc4, od4, .func (PySem.W.fnOf "over" "over" (defArgs s_over) (defBody s_over) (defScope s_over) .none kV4 dc4 pm4 an4 cd4 ct4), sl4⟩) (c4 : PySem.W.codeIn K cd4 "over" = true) (k4 : PySem.W.keepIn K (.ref f_over) = true)
    (a5 : PySem.W.nsIn K mainGlobals "sign_of" = some (some (.ref f_sign_of))) (l5 : K.lookup f_sign_of = some ⟨oc5, od5, .func (PySem.W.fnOf "sign_of" "sign_of" (defArgs s_sign_of) (defBody s_sign_of) (defScope s_sign_of) .none kV5 dc5 pm5 an5 cd5 ct5), sl5⟩) (c5 : PySem.W.codeIn K cd5 "sign_of" = true) (k5 : PySem.W.keepIn K (.ref f_sign_of) = true)
    (a6 : PySem.W.nsIn K mainGlobals "compared" = some (some (.ref f_compared))) (l6 : K.lookup f_compared = some ⟨oc6, od6, .func (PySem.W.fnOf "compared" "compared" (defArgs s_compared) (defBody s_compared) (defScope s_compared) .none kV6 dc6 pm6 an6 cd6 ct6), sl6⟩) (c6 : PySem.W.codeIn K cd6 "compared" = true) (k6 : PySem.W.keepIn K (.ref f_compared) = true)
    (a7 : PySem.W.nsIn K mainGlobals "_law_begin" = some (some (.ref f_l_begin))) (l7 : K.lookup f_l_begin = some ⟨oc7, od7, .func (PySem.W.fnOf "_law_begin" "_law_begin" (defArgs s_l_begin) (defBody s_l_begin) (defScope s_l_begin) .none kV7 dc7 pm7 an7 cd7 ct7), sl7⟩) (c7 : PySem.W.codeIn K cd7 "_law_begin" = true) (k7 : PySem.W.keepIn K (.ref f_l_begin) = true)
    (a8 : PySem.W.nsIn K mainGlobals "_law_take" = some (some (.ref f_l_take))) (l8 : K.lookup f_l_take = some ⟨oc8, od8, .func (PySem.W.fnOf "_law_take" "_law_take" (defArgs s_l_take) (defBody s_l_take) (defScope s_l_take) .none kV8 dc8 pm8 an8 cd8 ct8), sl8⟩) (c8 : PySem.W.codeIn K cd8 "_law_take" = true) (k8 : PySem.W.keepIn K (.ref f_l_take) = true)
    (a9 : PySem.W.nsIn K mainGlobals "_law_same" = some (some (.ref f_l_same))) (l9 : K.lookup f_l_same = some ⟨oc9, od9, .func (PySem.W.fnOf "_law_same" "_law_same" (defArgs s_l_same) (defBody s_l_same) (defScope s_l_same) .none kV9 dc9 pm9 an9 cd9 ct9), sl9⟩) (c9 : PySem.W.codeIn K cd9 "_law_same" = true) (k9 : PySem.W.keepIn K (.ref f_l_same) = true)
    (a10 : PySem.W.nsIn K mainGlobals "_law_low" = some (some (.ref f_l_low))) (l10 : K.lookup f_l_low = some ⟨oc10, od10, .func (PySem.W.fnOf "_law_low" "_law_low" (defArgs s_l_low) (defBody s_l_low) (defScope s_l_low) .none kV10 dc10 pm10 an10 cd10 ct10), sl10⟩) (c10 : PySem.W.codeIn K cd10 "_law_low" = true) (k10 : PySem.W.keepIn K (.ref f_l_low) = true)
    (a11 : PySem.W.nsIn K mainGlobals "_law_add" = some (some (.ref f_l_add))) (l11 : K.lookup f_l_add = some ⟨oc11, od11, .func (PySem.W.fnOf "_law_add" "_law_add" (defArgs s_l_add) (defBody s_l_add) (defScope s_l_add) .none kV11 dc11 pm11 an11 cd11 ct11), sl11⟩) (c11 : PySem.W.codeIn K cd11 "_law_add" = true) (k11 : PySem.W.keepIn K (.ref f_l_add) = true)
    (a12 : PySem.W.nsIn K mainGlobals "_law_mul" = some (some (.ref f_l_mul))) (l12 : K.lookup f_l_mul = some ⟨oc12, od12, .func (PySem.W.fnOf "_law_mul" "_law_mul" (defArgs s_l_mul) (defBody s_l_mul) (defScope s_l_mul) .none kV12 dc12 pm12 an12 cd12 ct12), sl12⟩) (c12 : PySem.W.codeIn K cd12 "_law_mul" = true) (k12 : PySem.W.keepIn K (.ref f_l_mul) = true)
    (a13 : PySem.W.nsIn K mainGlobals "_law_neg" = some (some (.ref f_l_neg))) (l13 : K.lookup f_l_neg = some ⟨oc13, od13, .func (PySem.W.fnOf "_law_neg" "_law_neg" (defArgs s_l_neg) (defBody s_l_neg) (defScope s_l_neg) .none kV13 dc13 pm13 an13 cd13 ct13), sl13⟩) (c13 : PySem.W.codeIn K cd13 "_law_neg" = true) (k13 : PySem.W.keepIn K (.ref f_l_neg) = true)
    (a14 : PySem.W.nsIn K mainGlobals "_law_fraction" = some (some (.ref f_l_fraction))) (l14 : K.lookup f_l_fraction = some ⟨oc14, od14, .func (PySem.W.fnOf "_law_fraction" "_law_fraction" (defArgs s_l_fraction) (defBody s_l_fraction) (defScope s_l_fraction) .none kV14 dc14 pm14 an14 cd14 ct14), sl14⟩) (c14 : PySem.W.codeIn K cd14 "_law_fraction" = true) (k14 : PySem.W.keepIn K (.ref f_l_fraction) = true)
    (a15 : PySem.W.nsIn K mainGlobals "_law_refused" = some (some (.ref f_l_refused))) (l15 : K.lookup f_l_refused = some ⟨oc15, od15, .func (PySem.W.fnOf "_law_refused" "_law_refused" (defArgs s_l_refused) (defBody s_l_refused) (defScope s_l_refused) .none kV15 dc15 pm15 an15 cd15 ct15), sl15⟩) (c15 : PySem.W.codeIn K cd15 "_law_refused" = true) (k15 : PySem.W.keepIn K (.ref f_l_refused) = true)
    (a16 : PySem.W.nsIn K mainGlobals "_law_pair_right" = some (some (.ref f_l_pair_right))) (l16 : K.lookup f_l_pair_right = some ⟨oc16, od16, .func (PySem.W.fnOf "_law_pair_right" "_law_pair_right" (defArgs s_l_pair_right) (defBody s_l_pair_right) (defScope s_l_pair_right) .none kV16 dc16 pm16 an16 cd16 ct16), sl16⟩) (c16 : PySem.W.codeIn K cd16 "_law_pair_right" = true) (k16 : PySem.W.keepIn K (.ref f_l_pair_right) = true)
    (a17 : PySem.W.nsIn K mainGlobals "law" = some (some (.ref f_law))) (l17 : K.lookup f_law = some ⟨oc17, od17, .func (PySem.W.fnOf "law" "law" (defArgs s_law) (defBody s_law) (defScope s_law) .none kV17 dc17 pm17 an17 cd17 ct17), sl17⟩) (c17 : PySem.W.codeIn K cd17 "law" = true) (k17 : PySem.W.keepIn K (.ref f_law) = true)
    (z_list : PySem.W.nsIn K mainGlobals "list" = some none)
    (z_len : PySem.W.nsIn K mainGlobals "len" = some none)
    (z_divmod : PySem.W.nsIn K mainGlobals "divmod" = some none)
    (z_isinstance : PySem.W.nsIn K mainGlobals "isinstance" = some none)
    (z_tuple : PySem.W.nsIn K mainGlobals "tuple" = some none)
    (z_zip : PySem.W.nsIn K mainGlobals "zip" = some none)
    (z_all : PySem.W.nsIn K mainGlobals "all" = some none)
    (z_str : PySem.W.nsIn K mainGlobals "str" = some none)
    (z_bool : PySem.W.nsIn K mainGlobals "bool" = some none)
    (z_int : PySem.W.nsIn K mainGlobals "int" = some none)
    (z_abs : PySem.W.nsIn K mainGlobals "abs" = some none)
    (z_range : PySem.W.nsIn K mainGlobals "range" = some none)
    (z_ZeroDivisionError : PySem.W.nsIn K mainGlobals "ZeroDivisionError" = some none)
    (z_repr : PySem.W.nsIn K mainGlobals "repr" = some none)
    (i_gcd : PySem.W.nsIn K mainGlobals "gcd" = some (some (.builtin "math.gcd")))
    (gx_NoParts : PySem.W.nsIn K mainGlobals "NoParts" = some (some (.ref C_NoParts)))
    (gx_BadText : PySem.W.nsIn K mainGlobals "BadText" = some (some (.ref C_BadText)))
    (gx_NoClaim : PySem.W.nsIn K mainGlobals "NoClaim" = some (some (.ref C_NoClaim)))
    (gx_NoWorth : PySem.W.nsIn K mainGlobals "NoWorth" = some (some (.ref C_NoWorth)))
    (xe_NoParts : PySem.W.excIn K C_NoParts [.type "ZeroDivisionError", .type "ArithmeticError", .type "Exception", .type "BaseException", .type "object"] "ZeroDivisionError.__new__" = true)
    (xk_NoParts : PySem.W.keepIn K (.ref C_NoParts) = true)
    (xb_NoParts : PySem.W.subIn K (.ref C_NoParts) (.type "BaseException") = some true)
    (xt_NoParts : PySem.W.typeIn K (.ref C_NoParts) = some (.type "type"))
    (xd_NoParts : PySem.W.hasDictIn K C_NoParts = true)
    (xs_NoParts_NoParts : PySem.W.subIn K (.ref C_NoParts) (.ref C_NoParts) = some true)
    (xb_BadText : PySem.W.subIn K (.ref C_BadText) (.type "BaseException") = some true)
    (xd_BadText : PySem.W.hasDictIn K C_BadText = true)
    (xt_BadText : PySem.W.typeIn K (.ref C_BadText) = some (.type "type"))
    (xs_NoParts_BadText : PySem.W.subIn K (.ref C_NoParts) (.ref C_BadText) = some false)
    (xb_NoClaim : PySem.W.subIn K (.ref C_NoClaim) (.type "BaseException") = some true)
    (xd_NoClaim : PySem.W.hasDictIn K C_NoClaim = true)
    (xt_NoClaim : PySem.W.typeIn K (.ref C_NoClaim) = some (.type "type"))
    (xs_NoParts_NoClaim : PySem.W.subIn K (.ref C_NoParts) (.ref C_NoClaim) = some false)
    (xb_NoWorth : PySem.W.subIn K (.ref C_NoWorth) (.type "BaseException") = some true)
    (xd_NoWorth : PySem.W.hasDictIn K C_NoWorth = true)
    (xt_NoWorth : PySem.W.typeIn K (.ref C_NoWorth) = some (.type "type"))
    (xs_NoParts_NoWorth : PySem.W.subIn K (.ref C_NoParts) (.ref C_NoWorth) = some false)
    (xa0_NoParts : PySem.W.findIn K (.ref C_NoParts) "__getattribute__" = some (some (.builtin "BaseException.__getattribute__")))
    (xa1_NoParts : PySem.W.findIn K (.ref C_NoParts) "__getattr__" = some none)
    (xa2_NoParts : PySem.W.subIn K (.ref C_NoParts) (.type "BaseException") = some true)
    (xa3_NoParts : PySem.W.hasDictIn K C_NoParts = true)
    (xa4_NoParts : PySem.W.findIn K (.ref C_NoParts) "__class__" = some (some (.builtin "object.__class__")))
    (xa5_NoParts : PySem.W.specialIn K (.builtin "object.__class__") "__get__" = some (some (.builtin "getset_descriptor.__get__")))
    (xa6_NoParts : PySem.W.takesIn K (.builtin "object.__class__") = some true)
    (xa7_NoParts : PySem.W.mroIn K C_NoParts (.type "object") = some true)
    (xi_NoParts_ZeroDivisionError : PySem.W.subIn K (.ref C_NoParts) (.type "ZeroDivisionError") = some true)
    (xn_NoParts : PySem.W.subIn K (.type "NoneType") (.ref C_NoParts) = some false) :
    ∃ fd : FuncData, (∀ (s : Shared) (v : Value), BindsTo s fd ⟨[v], []⟩ [("_law_script", v)]) ∧ ∀ base : Heap, K.In base → base.Ns mainGlobals mg → FnG P w K mg base 9 fa fd ["_law_script"] m_law := by
  have e := hfa.symm.trans (PySem.W.mg_of X G a17)
  cases e
  have F0 := fun_mk (st := s_lowest) l0 c0 k0
  have b0 := F0.binds (ps := ["top", "bottom"]) fun _ _ _ _ _ _ us hl => match us, hl with | [_, _], _ => rfl
  have F1 := fun_mk (st := s_plus) l1 c1 k1
  have b1 := F1.binds (ps := ["one", "other"]) fun _ _ _ _ _ _ us hl => match us, hl with | [_, _], _ => rfl
  have F2 := fun_mk (st := s_less) l2 c2 k2
  have b2 := F2.binds (ps := ["one", "other"]) fun _ _ _ _ _ _ us hl => match us, hl with | [_, _], _ => rfl
  have F3 := fun_mk (st := s_times) l3 c3 k3
  have b3 := F3.binds (ps := ["one", "other"]) fun _ _ _ _ _ _ us hl => match us, hl with | [_, _], _ => rfl
  have F4 := fun_mk (st := s_over) l4 c4 k4
  have b4 := F4.binds (ps := ["one", "other"]) fun _ _ _ _ _ _ us hl => match us, hl with | [_, _], _ => rfl
  have F5 := fun_mk (st := s_sign_of) l5 c5 k5
  have b5 := F5.binds (ps := ["fraction"]) fun _ _ _ _ _ _ us hl => match us, hl with | [_], _ => rfl
  have F6 := fun_mk (st := s_compared) l6 c6 k6
  have b6 := F6.binds (ps := ["one", "other"]) fun _ _ _ _ _ _ us hl => match us, hl with | [_, _], _ => rfl
  have F7 := fun_mk (st := s_l_begin) l7 c7 k7
  have b7 := F7.binds (ps := ["_law_script"]) fun _ _ _ _ _ _ us hl => match us, hl with | [_], _ => rfl
  have F8 := fun_mk (st := s_l_take) l8 c8 k8
  have b8 := F8.binds (ps := ["_law_box", "_law_size"]) fun _ _ _ _ _ _ us hl => match us, hl with | [_, _], _ => rfl
  have F9 := fun_mk (st := s_l_same) l9 c9 k9
  have b9 := F9.binds (ps := ["_law_found", "_law_due"]) fun _ _ _ _ _ _ us hl => match us, hl with | [_, _], _ => rfl
  have F10 := fun_mk (st := s_l_low) l10 c10 k10
  have b10 := F10.binds (ps := ["_law_top", "_law_bottom"]) fun _ _ _ _ _ _ us hl => match us, hl with | [_, _], _ => rfl
  have F11 := fun_mk (st := s_l_add) l11 c11 k11
  have b11 := F11.binds (ps := ["_law_one", "_law_two"]) fun _ _ _ _ _ _ us hl => match us, hl with | [_, _], _ => rfl
  have F12 := fun_mk (st := s_l_mul) l12 c12 k12
  have b12 := F12.binds (ps := ["_law_one", "_law_two"]) fun _ _ _ _ _ _ us hl => match us, hl with | [_, _], _ => rfl
  have F13 := fun_mk (st := s_l_neg) l13 c13 k13
  have b13 := F13.binds (ps := ["_law_one"]) fun _ _ _ _ _ _ us hl => match us, hl with | [_], _ => rfl
  have F14 := fun_mk (st := s_l_fraction) l14 c14 k14
  have b14 := F14.binds (ps := ["_law_box"]) fun _ _ _ _ _ _ us hl => match us, hl with | [_], _ => rfl
  have F15 := fun_mk (st := s_l_refused) l15 c15 k15
  have b15 := F15.binds (ps := ["_law_way", "_law_one", "_law_two"]) fun _ _ _ _ _ _ us hl => match us, hl with | [_, _, _], _ => rfl
  have F16 := fun_mk (st := s_l_pair_right) l16 c16 k16
  have b16 := F16.binds (ps := ["_law_one", "_law_two"]) fun _ _ _ _ _ _ us hl => match us, hl with | [_, _], _ => rfl
  have F17 := fun_mk (st := s_law) l17 c17 k17
  have b17 := F17.binds (ps := ["_law_script"]) fun _ _ _ _ _ _ us hl => match us, hl with | [_], _ => rfl
  exact ⟨PySem.W.fnOf "law" "law" (defArgs s_law) (defBody s_law) (defScope s_law) .none kV17 dc17 pm17 an17 cd17 ct17, fun s v => .of_eq rfl, fun base _ _ => ok_law ⟨F0, PySem.W.mg_of X G a0, b0, F1, PySem.W.mg_of X G a1, b1, F2, PySem.W.mg_of X G a2, b2, F3, PySem.W.mg_of X G a3, b3, F4, PySem.W.mg_of X G a4, b4, F5, PySem.W.mg_of X G a5, b5, F6, PySem.W.mg_of X G a6, b6, F7, PySem.W.mg_of X G a7, b7, F8, PySem.W.mg_of X G a8, b8, F9, PySem.W.mg_of X G a9, b9, F10, PySem.W.mg_of X G a10, b10, F11, PySem.W.mg_of X G a11, b11, F12, PySem.W.mg_of X G a12, b12, F13, PySem.W.mg_of X G a13, b13, F14, PySem.W.mg_of X G a14, b14, F15, PySem.W.mg_of X G a15, b15, F16, PySem.W.mg_of X G a16, b16, F17, PySem.W.mg_of X G a17, b17, PySem.W.mg_none_of X G z_list, PySem.W.mg_none_of X G z_len, PySem.W.mg_none_of X G z_divmod, PySem.W.mg_none_of X G z_isinstance, PySem.W.mg_none_of X G z_tuple, PySem.W.mg_none_of X G z_zip, PySem.W.mg_none_of X G z_all, PySem.W.mg_none_of X G z_str, PySem.W.mg_none_of X G z_bool, PySem.W.mg_none_of X G z_int, PySem.W.mg_none_of X G z_abs, PySem.W.mg_none_of X G z_range, PySem.W.mg_none_of X G z_ZeroDivisionError, PySem.W.mg_none_of X G z_repr, PySem.W.mg_of X G i_gcd, PySem.W.mg_of X G gx_NoParts, PySem.W.mg_of X G gx_BadText, PySem.W.mg_of X G gx_NoClaim, PySem.W.mg_of X G gx_NoWorth, xe_NoParts, xk_NoParts, xb_NoParts, xt_NoParts, xd_NoParts, xs_NoParts_NoParts, xb_BadText, xd_BadText, xt_BadText, xs_NoParts_BadText, xb_NoClaim, xd_NoClaim, xt_NoClaim, xs_NoParts_NoClaim, xb_NoWorth, xd_NoWorth, xt_NoWorth, xs_NoParts_NoWorth, xa0_NoParts, xa1_NoParts, xa2_NoParts, xa3_NoParts, xa4_NoParts, xa5_NoParts, xa6_NoParts, xa7_NoParts, xi_NoParts_ZeroDivisionError, xn_NoParts⟩⟩
end Gk02
end

open PySem PySem.W PyProof.Rows
set_option maxHeartbeats 0 in
theorem PySem.Challenge.cw_squarepapers_k02_fractions_reckoned_holds : PySem.Challenge.rw_squarepapers_k02_fractions_reckoned.Holds := by
  w_on; o_law; k_head; (case hw => w_witness2)
  k_fill
  refine PV.walk_ofG (l := PySem.Challenge.rw_squarepapers_k02_fractions_reckoned) (n := 63) (k := 9) (x := "_law_script") (m := Gk02.m_law) rfl (by decide) rfl ⟨rfl, by decide, by decide⟩ (fun w h Y => PySem.W.kIn_of Y) ?F Gk02.law_true
  case F =>
    intro w mg fa h KX G hmg
    refine' Gk02.all_mk KX G hmg ?a0 ?l0 ?c0 ?k0 ?a1 ?l1 ?c1 ?k1 ?a2 ?l2 ?c2 ?k2 ?a3 ?l3 ?c3 ?k3 ?a4 ?l4 ?c4 ?k4 ?a5 ?l5 ?c5 ?k5 ?a6 ?l6 ?c6 ?k6 ?a7 ?l7 ?c7 ?k7 ?a8 ?l8 ?c8 ?k8 ?a9 ?l9 ?c9 ?k9 ?a10 ?l10 ?c10 ?k10 ?a11 ?l11 ?c11 ?k11 ?a12 ?l12 ?c12 ?k12 ?a13 ?l13 ?c13 ?k13 ?a14 ?l14 ?c14 ?k14 ?a15 ?l15 ?c15 ?k15 ?a16 ?l16 ?c16 ?k16 ?a17 ?l17 ?c17 ?k17 ?z_list ?z_len ?z_divmod ?z_isinstance ?z_tuple ?z_zip ?z_all ?z_str ?z_bool ?z_int ?z_abs ?z_range ?z_ZeroDivisionError ?z_repr ?i_gcd ?gx_NoParts ?gx_BadText ?gx_NoClaim ?gx_NoWorth ?xe_NoParts ?xk_NoParts ?xb_NoParts ?xt_NoParts ?xd_NoParts ?xs_NoParts_NoParts ?xb_BadText ?xd_BadText ?xt_BadText ?xs_NoParts_BadText ?xb_NoClaim ?xd_NoClaim ?xt_NoClaim ?xs_NoParts_NoClaim ?xb_NoWorth ?xd_NoWorth ?xt_NoWorth ?xs_NoParts_NoWorth ?xa0_NoParts ?xa1_NoParts ?xa2_NoParts ?xa3_NoParts ?xa4_NoParts ?xa5_NoParts ?xa6_NoParts ?xa7_NoParts ?xi_NoParts_ZeroDivisionError ?xn_NoParts
    (case a0 => k_is)
    (case l0 => k_is)
    (case c0 => k_is)
    (case k0 => k_is)
    (case a1 => k_is)
    (case l1 => k_is)
    (case c1 => k_is)
    (case k1 => k_is)
    (case a2 => k_is)
    (case l2 => k_is)
    (case c2 => k_is)
    (case k2 => k_is)
    (case a3 => k_is)
    (case l3 => k_is)
    (case c3 => k_is)
    (case k3 => k_is)
    (case a4 => k_is)
    (case l4 => k_is)
    (case c4 => k_is)
    (case k4 => k_is)
    (case a5 => k_is)
    (case l5 => k_is)
    (case c5 => k_is)
    (case k5 => k_is)
    (case a6 => k_is)
    (case l6 => k_is)
    (case c6 => k_is)
    (case k6 => k_is)
    (case a7 => k_is)
    (case l7 => k_is)
    (case c7 => k_is)
    (case k7 => k_is)
    (case a8 => k_is)
    (case l8 => k_is)
    (case c8 => k_is)
    (case k8 => k_is)
    (case a9 => k_is)
    (case l9 => k_is)
    (case c9 => k_is)
    (case k9 => k_is)
    (case a10 => k_is)
    (case l10 => k_is)
    (case c10 => k_is)
    (case k10 => k_is)
    (case a11 => k_is)
    (case l11 => k_is)
    (case c11 => k_is)
    (case k11 => k_is)
    (case a12 => k_is)
    (case l12 => k_is)
    (case c12 => k_is)
    (case k12 => k_is)
    (case a13 => k_is)
    (case l13 => k_is)
    (case c13 => k_is)
    (case k13 => k_is)
    (case a14 => k_is)
    (case l14 => k_is)
    (case c14 => k_is)
    (case k14 => k_is)
    (case a15 => k_is)
    (case l15 => k_is)
    (case c15 => k_is)
    (case k15 => k_is)
    (case a16 => k_is)
    (case l16 => k_is)
    (case c16 => k_is)
    (case k16 => k_is)
    (case a17 => k_is)
    (case l17 => k_is)
    (case c17 => k_is)
    (case k17 => k_is)
    (case z_list => k_is)
    (case z_len => k_is)
    (case z_divmod => k_is)
    (case z_isinstance => k_is)
    (case z_tuple => k_is)
    (case z_zip => k_is)
    (case z_all => k_is)
    (case z_str => k_is)
    (case z_bool => k_is)
    (case z_int => k_is)
    (case z_abs => k_is)
    (case z_range => k_is)
    (case z_ZeroDivisionError => k_is)
    (case z_repr => k_is)
    (case i_gcd => k_is)
    (case gx_NoParts => k_is)
    (case gx_BadText => k_is)
    (case gx_NoClaim => k_is)
    (case gx_NoWorth => k_is)
    (case xe_NoParts => k_exc)
    (case xk_NoParts => k_is)
    (case xb_NoParts => k_is)
    (case xt_NoParts => k_is)
    (case xd_NoParts => k_is)
    (case xs_NoParts_NoParts => k_is)
    (case xb_BadText => k_is)
    (case xd_BadText => k_is)
    (case xt_BadText => k_is)
    (case xs_NoParts_BadText => k_is)
    (case xb_NoClaim => k_is)
    (case xd_NoClaim => k_is)
    (case xt_NoClaim => k_is)
    (case xs_NoParts_NoClaim => k_is)
    (case xb_NoWorth => k_is)
    (case xd_NoWorth => k_is)
    (case xt_NoWorth => k_is)
    (case xs_NoParts_NoWorth => k_is)
    (case xa0_NoParts => k_is)
    (case xa1_NoParts => k_is)
    (case xa2_NoParts => k_is)
    (case xa3_NoParts => k_is)
    (case xa4_NoParts => k_is)
    (case xa5_NoParts => k_is)
    (case xa6_NoParts => k_is)
    (case xa7_NoParts => k_is)
    (case xi_NoParts_ZeroDivisionError => k_is)
    (case xn_NoParts => k_is)
