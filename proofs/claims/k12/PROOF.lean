import PyProof.Rows.All
import Wide.All
import OpenK.AllK
import Wide.FinOn
import Lean
import PyProof.EqAt
import PyProof.EqKinds
import PyProof.TupleCall
import PySem.Challenge.RW_sameapart_k12_refused
set_option Elab.async false
set_option linter.all false
set_option maxRecDepth 100000
namespace L2
open PySem PySem.Spec PyProof.Rows
abbrev Key := Sum Int Str
def keyIs : Key → Value → Bool
  | .inl k, v => Value.isInt k v
  | .inr x, v => Value.isStrOf x v
def keyH (w : World) : Key → Int
  | .inl k => hashInt k
  | .inr x => hashStr w x
theorem keyIs_shape : ∀ {k : Key} {v : Value}, keyIs k v = true → (∃ i t, k = Sum.inl i ∧ v = Value.int i t) ∨ (∃ x t, k = Sum.inr x ∧ v = Value.str x t)
  | .inl i, v, h => by
    obtain ⟨t, e⟩ := Value.isInt_shape (k := i) (v := v) h
    exact .inl ⟨i, t, rfl, e⟩
  | .inr x, v, h => by
    obtain ⟨t, e⟩ := Value.isStrOf_shape (x := x) (v := v) h
    exact .inr ⟨x, t, rfl, e⟩
theorem keyIs_int (i : Int) (t : Tok) : keyIs (.inl i) (.int i t) = true := by simp [keyIs, Value.isInt]
theorem keyIs_str (x : Str) (t : Tok) : keyIs (.inr x) (.str x t) = true := by simp [keyIs, Value.isStrOf]
theorem key_ll (a b : Int) : decide ((Sum.inl a : Key) = Sum.inl b) = (a == b) := by
  by_cases e : a = b
  · subst e; simp
  · have h : ¬ (Sum.inl a : Key) = Sum.inl b := fun q => e (Sum.inl.inj q)
    rw [decide_eq_false h]
    exact (beq_eq_false_iff_ne.mpr e).symm
theorem key_rr (a b : Str) : decide ((Sum.inr a : Key) = Sum.inr b) = decide (a = b) := by
  by_cases e : a = b
  · subst e; simp
  · have h : ¬ (Sum.inr a : Key) = Sum.inr b := fun q => e (Sum.inr.inj q)
    rw [decide_eq_false h, decide_eq_false e]
theorem key_lr (a : Int) (b : Str) : decide ((Sum.inl a : Key) = Sum.inr b) = false := decide_eq_false (fun q => nomatch q)
theorem key_rl (a : Str) (b : Int) : decide ((Sum.inr a : Key) = Sum.inl b) = false := decide_eq_false (fun q => nomatch q)
def mixKind (prog : Program) (w : World) : PySem.KeyKind prog w Key where
  is := keyIs
  hash := keyH w
  inj := fun v a b ha hb => by
    rcases keyIs_shape ha with ⟨i, t, rfl, rfl⟩ | ⟨x, t, rfl, rfl⟩
    · rcases keyIs_shape hb with ⟨j, u, rfl, e⟩ | ⟨y, u, rfl, e⟩
      · injection e with e1 _; rw [e1]
      · exact nomatch e
    · rcases keyIs_shape hb with ⟨j, u, rfl, e⟩ | ⟨y, u, rfl, e⟩
      · exact nomatch e
      · injection e with e1 _; rw [e1]
  byValue := fun k v h => by
    rcases keyIs_shape h with ⟨i, t, rfl, rfl⟩ | ⟨x, t, rfl, rfl⟩ <;> rfl
  pyHash := fun hv h => by
    rcases keyIs_shape hv with ⟨i, t, rfl, rfl⟩ | ⟨x, t, rfl, rfl⟩
    · exact wpAny_pyHash_int h
    · exact wpAny_pyHash_str h
  eqBool := fun hu hv h => by
    rcases keyIs_shape hu with ⟨i, t, rfl, rfl⟩ | ⟨x, t, rfl, rfl⟩
    · rcases keyIs_shape hv with ⟨j, u, rfl, rfl⟩ | ⟨y, u, rfl, rfl⟩
      · rw [key_ll] at h; exact wpAny_eqBool_int h
      · rw [key_lr] at h; exact SeqAt.EqAt.int_str i t y u _ _ _ _ h
    · rcases keyIs_shape hv with ⟨j, u, rfl, rfl⟩ | ⟨y, u, rfl, rfl⟩
      · rw [key_rl] at h; exact SeqAt.EqAt.str_int x t j u _ _ _ _ h
      · rw [key_rr] at h; exact wpAny_eqBool_str h
  «strs» := fun k x t v h => by
    rcases keyIs_shape h with ⟨i, u, rfl, e⟩ | ⟨y, u, rfl, e⟩
    · exact nomatch e
    · injection e with e1 _
      subst e1
      cases v <;> rfl
theorem mixKind_int (prog : Program) (w : World) (i : Int) (t : Tok) : (mixKind prog w).is (.inl i) (.int i t) = true := keyIs_int i t
theorem mixKind_str (prog : Program) (w : World) (x : Str) (t : Tok) : (mixKind prog w).is (.inr x) (.str x t) = true := keyIs_str x t
end L2
namespace L2
open PySem PySem.Spec PyProof.Rows
inductive V where
  | non | bl (b : Bool) | int (i : Int) | str (x : Str) | byt (b : Array UInt8) | flt (b : UInt64) | ref (a : Addr) | ty (n : String)
  deriving DecidableEq
def RelV : V → Value → Prop
  | .non, u => u = Value.none
  | .bl b, u => u = Value.bool b
  | .int i, u => ∃ t, u = Value.int i t
  | .str x, u => ∃ t, u = Value.str x t
  | .byt b, u => ∃ t, u = Value.bytes b t
  | .flt b, u => ∃ t, u = Value.float b t
  | .ref a, u => u = Value.ref a
  | .ty n, u => u = Value.type n
abbrev Vals : List V → List Value → Prop := Paired RelV
theorem Vals.length {xs : List V} {us : List Value} (r : Vals xs us) : xs.length = us.length := Paired.length r
theorem Vals.get : ∀ {xs : List V} {us : List Value} {i : Nat} {x : V}, Vals xs us → xs[i]? = some x → ∃ u, us[i]? = some u ∧ RelV x u
  | _, _, _, _, .nil, e => by simp at e
  | _, _, 0, _, .cons r _, e => by simp at e; subst e; exact ⟨_, rfl, r⟩
  | _, _, i + 1, x, .cons _ t, e => by
    obtain ⟨u, h1, h2⟩ := Vals.get (i := i) (x := x) t (by simpa using e)
    exact ⟨u, by simpa using h1, h2⟩
theorem Vals.set {x : V} {u : Value} (r : RelV x u) : ∀ {xs : List V} {us : List Value} (i : Nat), Vals xs us → Vals (xs.set i x) (us.set i u)
  | _, _, _, .nil => .nil
  | _, _, 0, .cons _ t => .cons r t
  | _, _, i + 1, .cons q t => .cons q (Vals.set r i t)
theorem Vals.append : ∀ {xs ys : List V} {us ws : List Value}, Vals xs us → Vals ys ws → Vals (xs ++ ys) (us ++ ws)
  | _, _, _, _, .nil, s => s
  | _, _, _, _, .cons r t, s => .cons r (Vals.append t s)
theorem Vals.take : ∀ {xs : List V} {us : List Value} (n : Nat), Vals xs us → Vals (xs.take n) (us.take n)
  | _, _, 0, _ => .nil
  | _, _, _ + 1, .nil => .nil
  | _, _, n + 1, .cons r t => .cons r (Vals.take n t)
theorem Vals.drop : ∀ {xs : List V} {us : List Value} (n : Nat), Vals xs us → Vals (xs.drop n) (us.drop n)
  | _, _, 0, r => r
  | _, _, _ + 1, .nil => .nil
  | _, _, n + 1, .cons _ t => Vals.drop n t
def RelO : Option V → Option Value → Prop
  | some v, some u => RelV v u
  | none, none => True
  | _, _ => False
def KV {κ : Type} : List (κ × V) → List (κ × Value) → Prop := Paired fun (p : κ × V) (q : κ × Value) => p.1 = q.1 ∧ RelV p.2 q.2
def kV : Key → V
  | .inl i => .int i
  | .inr x => .str x
inductive HO where
  | lst (xs : List V)
  | tup (xs : List V)
  | dK (kvs : List (Key × V)) | dT (kvs : List (List Key × V))
  | set (S : Int → Bool) (n : Nat)
  | ins (C dx : Addr) (fs : List (Str × V))
  | own (x : Addr)
  | xd (fs : List (Str × V))
  | met (f x : Addr)
  | rng (lo hi : Int)
  | frz (o : Obj) (u : HO)
  | tbl (ps : Array Value)
  | ext (φ : Heap → Prop)
abbrev Hp := Addr → Option HO
def upd (H : Hp) (a : Addr) (o : HO) : Hp := fun b => if b = a then some o else H b
theorem upd_same {H : Hp} {a : Addr} {o : HO} : upd H a o a = some o := by unfold upd; rw [if_pos rfl]
theorem upd_ne {H : Hp} {a b : Addr} {o : HO} (h : b ≠ a) : upd H a o b = H b := by unfold upd; rw [if_neg h]
theorem ne_of {H : Hp} {a b : Addr} {o u : HO} (h : H a = some o) (h' : H b = some u) (d : o ≠ u) : a ≠ b := by
  intro e; subst e; rw [h] at h'; exact d (Option.some.inj h')
theorem ne_of_none {H : Hp} {a b : Addr} {o : HO} (h : H a = some o) (h' : H b = none) : a ≠ b := by
  intro e; subst e; rw [h] at h'; cases h'
section
variable (P : Program) (w : World)
def ObjOk (H : Hp) (h : Heap) (a : Addr) : HO → Prop
  | .lst xs => xs.length ≤ sizeLine ∧ ∃ (its : List Value) (n : Nat), Vals xs its ∧ h.get? a = some { cls := .type "list", data := .seq its.toArray n }
  | .tup xs => xs.length ≤ sizeLine ∧ ∃ its : List Value, Vals xs its ∧ IsTup h a its.toArray
  | .dK kvs => kvs.length ≤ sizeLine ∧ (a == sysModules) = false ∧ ∃ vs, KV kvs vs ∧ h.DictOf (mixKind P w) a vs
  | .dT kvs => kvs.length ≤ sizeLine ∧ (a == sysModules) = false ∧ ∃ xs : List (List Key × Addr × Value),
      Paired (fun (p : List Key × V) (q : List Key × Addr × Value) => p.1 = q.1 ∧ H q.2.1 = some (.tup (p.1.map kV)) ∧ RelV p.2 q.2.2) kvs xs ∧
      ∃ o es ep, h.get? a = some o ∧ o.ExactDict ∧ o.data = .dict es ep ∧ es.toList = xs.map (entryOfKey (tupleKind (mixKind P w))) ∧ (xs.map (·.1)).Nodup
  | .set S n => h.SetOf (intKind P w) a S n
  | .ins C dx fs => H dx = some (.own a) ∧ fs.length ≤ 1000 ∧ dx ≠ a ∧ h.get? a = some (PySem.W.instObj C dx) ∧
      ∃ mA, h.Ns1 dx mA ∧ (∀ f, RelO (fs.lookup f) (mA f)) ∧ PySem.Within mA (fs.map (·.1))
  | .own _ => ∃ o, h.get? a = some o
  | .xd fs => ∃ mA, h.Ns1 a mA ∧ ∀ f, RelO (fs.lookup f) (mA f)
  | .rng lo hi => ∃ t u v, h.get? a = some { cls := .type "range", data := .fields #[.int lo t, .int hi u, .int 1 v] }
  | .frz o u => h.get? a = some o ∧ ObjOk H h a u
  | .tbl ps => h.get? a = some { cls := .none, data := .fields ps }
  | .met f x => h.get? a = some (PySem.W.methodObj (.ref f) (.ref x))
  | .ext φ => φ h ∧ (∃ o, h.get? a = some o) ∧ ∀ h1 h2 : Heap, φ h1 → (∀ o, h1.get? a = some o → h2.get? a = some o) → φ h2
def HOk (H : Hp) (h : Heap) : Prop := ∀ a o, H a = some o → ObjOk P w H h a o
end
section
variable {P : Program} {w : World} {H H' : Hp} {h h' : Heap} {a : Addr} {o : HO}
theorem ObjOk.lt (x : ObjOk P w H h a o) : a < h.objs.size := by
  cases o with
  | lst xs => obtain ⟨_, _, _, _, e⟩ := x; exact Heap.lt_size e
  | tup xs => obtain ⟨_, _, _, p⟩ := x; exact p.lt
  | dK kvs => obtain ⟨_, _, _, _, o, _, _, e, _⟩ := x; exact Heap.lt_size e
  | dT kvs => obtain ⟨_, _, _, _, o, _, _, e, _⟩ := x; exact Heap.lt_size e
  | set S n => obtain ⟨o, _, _, _, e, _⟩ := x; exact Heap.lt_size e
  | ins C dx fs => obtain ⟨_, _, _, e, _⟩ := x; exact Heap.lt_size e
  | own y => obtain ⟨_, e⟩ := x; exact Heap.lt_size e
  | xd fs => obtain ⟨_, ⟨_, _, _, e, _⟩, _⟩ := x; exact Heap.lt_size e
  | rng lo hi => obtain ⟨_, _, _, e⟩ := x; exact Heap.lt_size e
  | frz ob u => obtain ⟨e, _⟩ := x; exact Heap.lt_size e
  | tbl ps => exact Heap.lt_size (show h.get? a = some _ from x)
  | met f y => exact Heap.lt_size (show h.get? a = some _ from x)
  | ext φ => obtain ⟨_, ⟨_, e⟩, _⟩ := x; exact Heap.lt_size e
theorem Paired.mapP {α β : Type} {F G : α → β → Prop} : ∀ {l₁ : List α} {l₂ : List β}, Paired F l₁ l₂ → (∀ a b, F a b → G a b) → Paired G l₁ l₂
  | _, _, .nil, _ => .nil
  | _, _, .cons r t, f => .cons (f _ _ r) (Paired.mapP t f)
theorem ObjOk.stay (x : ObjOk P w H h a o) (k : ∀ b u, (b = a ∨ H b = some (.own a)) → h.get? b = some u → h'.get? b = some u)
    (ho : ∀ b, H b = some (.own a) → H' b = some (.own a)) (ht : ∀ b xs, H b = some (.tup xs) → H' b = some (.tup xs)) : ObjOk P w H' h' a o := by
  induction o with
  | lst xs => obtain ⟨z, its, n, r, e⟩ := x; exact ⟨z, its, n, r, k _ _ (.inl rfl) e⟩
  | tup xs => obtain ⟨z, its, r, ob, e, c⟩ := x; exact ⟨z, its, r, ob, k _ _ (.inl rfl) e, c⟩
  | dK kvs => obtain ⟨z, y, vs, r, ob, es, ep, e, c⟩ := x; exact ⟨z, y, vs, r, ob, es, ep, k _ _ (.inl rfl) e, c⟩
  | dT kvs =>
    obtain ⟨z, y, xs, r, ob, es, ep, e, c⟩ := x
    exact ⟨z, y, xs, Paired.mapP r fun p q z => ⟨z.1, ht _ _ z.2.1, z.2.2⟩, ob, es, ep, k _ _ (.inl rfl) e, c⟩
  | set S n => obtain ⟨ob, es, ep, t, e, c⟩ := x; exact ⟨ob, es, ep, t, k _ _ (.inl rfl) e, c⟩
  | ins C dx fs =>
    obtain ⟨d, z, ne, e, mA, ⟨od, es, ep, e2, c⟩, r⟩ := x
    exact ⟨ho _ d, z, ne, k _ _ (.inl rfl) e, mA, ⟨od, es, ep, k _ _ (.inr d) e2, c⟩, r⟩
  | own y => obtain ⟨ob, e⟩ := x; exact ⟨ob, k _ _ (.inl rfl) e⟩
  | xd fs => obtain ⟨mA, ⟨od, es, ep, e, c⟩, r⟩ := x; exact ⟨mA, ⟨od, es, ep, k _ _ (.inl rfl) e, c⟩, r⟩
  | rng lo hi => obtain ⟨t, u, v, e⟩ := x; exact ⟨t, u, v, k _ _ (.inl rfl) e⟩
  | frz ob u ih => obtain ⟨e, q⟩ := x; exact ⟨k _ _ (.inl rfl) e, ih q⟩
  | tbl ps =>
    have e : h.get? a = some { cls := .none, data := .fields ps } := x
    show h'.get? a = some { cls := .none, data := .fields ps }
    exact k a _ (.inl rfl) e
  | met f y =>
    have e : h.get? a = some (PySem.W.methodObj (.ref f) (.ref y)) := x
    show h'.get? a = some (PySem.W.methodObj (.ref f) (.ref y))
    exact k a _ (.inl rfl) e
  | ext φ => obtain ⟨p, ⟨o, e⟩, st⟩ := x; exact ⟨st _ _ p fun o q => k _ _ (.inl rfl) q, ⟨o, k _ _ (.inl rfl) e⟩, st⟩
theorem HOk.lt (x : HOk P w H h) (e : H a = some o) : a < h.objs.size := (x a o e).lt
theorem HOk.fresh (x : HOk P w H h) (e : h.objs.size ≤ a) : H a = none := by
  cases q : H a with
  | none => rfl
  | some u => exact absurd (Nat.lt_of_lt_of_le (x.lt q) e) (Nat.lt_irrefl _)
theorem HOk.kept (x : HOk P w H h) (k : ∀ b u, h.get? b = some u → h'.get? b = some u) : HOk P w H h' := fun a o e =>
  (x a o e).stay (fun b u _ q => k b u q) (fun _ q => q) fun _ _ q => q
theorem HOk.laid (x : HOk P w H h) (k : ∀ b u, h.get? b = some u → h'.get? b = some u) (hp : h.objs.size ≤ a) (new : ObjOk P w (upd H a o) h' a o) : HOk P w (upd H a o) h' := fun b u e => by
  have hn := x.fresh hp
  by_cases hb : b = a
  · subst hb; rw [upd_same] at e; cases e; exact new
  · rw [upd_ne hb] at e
    exact (x b u e).stay (fun c v _ q => k c v q) (fun c q => by rw [upd_ne (ne_of_none q hn)]; exact q) fun c xs q => by rw [upd_ne (ne_of_none q hn)]; exact q
end
def Rd (H : Hp) (a : Addr) (u : HO) : Prop := H a = some u ∨ ∃ o, H a = some (.frz o u)
theorem Rd.of {H : Hp} {a : Addr} {u : HO} (h : H a = some u) : Rd H a u := .inl h
theorem Rd.ok {P : Program} {w : World} {H : Hp} {h : Heap} {a : Addr} {u : HO} (r : Rd H a u) (x : HOk P w H h) : ObjOk P w H h a u := by
  rcases r with r | ⟨o, r⟩
  · exact x a u r
  · obtain ⟨_, q⟩ := x a _ r
    exact q
def Mut : Option HO → Prop
  | some (.lst _) => True
  | some (.dK _) => True
  | some (.dT _) => True
  | some (.set _ _) => True
  | some (.ins _ _ _) => True
  | some (.ext _) => True
  | _ => False
section
variable {P : Program} {w : World} {H : Hp} {h h' : Heap} {x e : Addr} {o' : HO}
theorem HOk.write (ok : HOk P w H h) (mu : Mut (H x)) (he : e = x ∨ H e = some (.own x)) (k : ∀ b u, b ≠ e → h.get? b = some u → h'.get? b = some u) (heo : ∃ u, h'.get? e = some u)
    (new : ObjOk P w (upd H x o') h' x o') : HOk P w (upd H x o') h' := fun b u q => by
  have nown : ∀ c y, H c = some (.own y) → c ≠ x := fun c y r z => by subst z; rw [r] at mu; exact mu
  have ntup : ∀ c xs, H c = some (.tup xs) → c ≠ x := fun c xs r z => by subst z; rw [r] at mu; exact mu
  by_cases hb : b = x
  · subst hb; rw [upd_same] at q; cases q; exact new
  · rw [upd_ne hb] at q
    by_cases hbe : b = e
    · have q' : H b = some (.own x) := by
        rcases he with z | z
        · exact absurd (hbe.trans z) hb
        · rw [hbe]; exact z
      rw [q] at q'; cases q'
      obtain ⟨v, hv⟩ := heo
      exact ⟨v, by rw [hbe]; exact hv⟩
    · refine (ok b u q).stay (fun c v hc r => k c v ?_ r) (fun c r => by rw [upd_ne (nown c b r)]; exact r) fun c xs r => by rw [upd_ne (ntup c xs r)]; exact r
      rcases hc with rfl | hc
      · exact hbe
      · rintro rfl
        rcases he with z | z
        · exact nown c b hc z
        · rw [hc] at z; cases z; exact hb rfl
end
structure Un (fs ex : List Addr) (H H' : Hp) (h h' : Heap) : Prop where
  keep : ∀ b o, h.get? b = some o → H b = none → b ∉ fs → b ∉ ex → h'.get? b = some o
  slot : ∀ b o, h.get? b = some o → H b = none → b ∈ fs → b ∉ ex → ∃ sl, h'.get? b = some { o with slots := sl }
  free : ∀ b o, h.get? b = some o → H b = none → b ∉ ex → H' b = none
  there : ∀ b o, h.get? b = some o → b ∉ ex → ∃ o', h'.get? b = some o'
  tups : ∀ b xs, H b = some (.tup xs) → H' b = some (.tup xs)
  frzs : ∀ b o u, H b = some (.frz o u) → H' b = some (.frz o u)
  tbls : ∀ b ps, H b = some (.tbl ps) → ∃ more, H' b = some (.tbl (ps ++ more))
section
variable {fs fs' ex ex' : List Addr} {H H1 H2 : Hp} {h h1 h2 h' : Heap} {a x e : Addr} {o : HO}
theorem Un.any (u : Un fs ex H H1 h h1) {b : Addr} {ob : Obj} (q : h.get? b = some ob) (n : H b = none) (hx : b ∉ ex) : ∃ sl, h1.get? b = some { ob with slots := sl } := by
  by_cases hb : b ∈ fs
  · exact u.slot b ob q n hb hx
  · exact ⟨ob.slots, u.keep b ob q n hb hx⟩
theorem Un.trans (a : Un fs ex H H1 h h1) (b : Un fs ex H1 H2 h1 h2) : Un fs ex H H2 h h2 where
  keep := fun c ob q n hc hx => b.keep c ob (a.keep c ob q n hc hx) (a.free c ob q n hx) hc hx
  slot := fun c ob q n hc hx => by
    obtain ⟨sl, e1⟩ := a.slot c ob q n hc hx
    obtain ⟨sl', e2⟩ := b.slot c _ e1 (a.free c ob q n hx) hc hx
    exact ⟨sl', e2⟩
  free := fun c ob q n hx => by
    obtain ⟨o', e1⟩ := a.there c ob q hx
    exact b.free c o' e1 (a.free c ob q n hx) hx
  there := fun c ob q hx => by
    obtain ⟨o', e1⟩ := a.there c ob q hx
    exact b.there c o' e1 hx
  tups := fun c xs q => b.tups c xs (a.tups c xs q)
  frzs := fun c ob xs q => b.frzs c ob xs (a.frzs c ob xs q)
  tbls := fun c ps q => by
    obtain ⟨m1, e1⟩ := a.tbls c ps q
    obtain ⟨m2, e2⟩ := b.tbls c _ e1
    exact ⟨m1 ++ m2, by rw [e2, Array.append_assoc]⟩
theorem Un.kept (k : ∀ b u, h.get? b = some u → h'.get? b = some u) : Un fs ex H H h h' :=
  ⟨fun b ob q _ _ _ => k b ob q, fun b ob q _ _ _ => ⟨ob.slots, k b ob q⟩, fun _ _ _ n _ => n, fun b ob q _ => ⟨ob, k b ob q⟩, fun _ _ q => q, fun _ _ _ q => q, fun _ ps q => ⟨#[], by rw [q]; simp⟩⟩
theorem Un.refl : Un fs ex H H h h := Un.kept fun _ _ q => q
theorem Un.laid (k : ∀ b u, h.get? b = some u → h'.get? b = some u) (hp : h.objs.size ≤ a) (hn : H a = none) : Un fs ex H (upd H a o) h h' where
  keep := fun b u q _ _ _ => k b u q
  slot := fun b u q _ _ _ => ⟨u.slots, k b u q⟩
  free := fun b u q n _ => by rw [upd_ne (Nat.ne_of_lt (Nat.lt_of_lt_of_le (Heap.lt_size q) hp))]; exact n
  there := fun b u q _ => ⟨u, k b u q⟩
  tups := fun b xs q => by rw [upd_ne (ne_of_none q hn)]; exact q
  frzs := fun b u xs q => by rw [upd_ne (ne_of_none q hn)]; exact q
  tbls := fun b ps q => ⟨#[], by rw [upd_ne (ne_of_none q hn), q]; simp⟩
theorem Un.write (mu : Mut (H x)) (he : e = x ∨ H e = some (.own x)) (k : ∀ b u, b ≠ e → h.get? b = some u → h'.get? b = some u) (heo : ∃ u, h'.get? e = some u) : Un fs ex H (upd H x o) h h' := by
  have hx : ∀ b, H b = none → b ≠ x := fun b n z => by subst z; rw [n] at mu; exact mu
  have hb : ∀ b, H b = none → b ≠ e := fun b n z => by
    subst z
    rcases he with r | r
    · exact hx b n r
    · rw [n] at r; cases r
  have hm : ∀ b u, H b = some u → ¬ Mut (some u) → b ≠ x := fun b u q nm z => by subst z; rw [q] at mu; exact nm mu
  refine ⟨fun b u q n _ _ => k b u (hb b n) q, fun b u q n _ _ => ⟨u.slots, k b u (hb b n) q⟩, fun b u q n _ => by rw [upd_ne (hx b n)]; exact n, fun b u q _ => ?_,
    fun b xs q => by rw [upd_ne (hm b _ q fun z => z)]; exact q, fun b u xs q => by rw [upd_ne (hm b _ q fun z => z)]; exact q, fun b ps q => ⟨#[], by rw [upd_ne (hm b _ q fun z => z), q]; simp⟩⟩
  by_cases hbe : b = e
  · subst hbe; exact heo
  · exact ⟨u, k b u hbe q⟩
theorem Un.mono (u : Un fs ex H H1 h h1) (hs : ∀ b ∈ fs, b ∈ fs') (hx : ∀ b ∈ ex, b ∈ ex') : Un fs' ex' H H1 h h1 :=
  ⟨fun b ob q n hb he => u.keep b ob q n (fun z => hb (hs b z)) fun z => he (hx b z), fun _ _ q n _ he => u.any q n fun z => he (hx _ z), fun b ob q n he => u.free b ob q n fun z => he (hx b z), fun b ob q he => u.there b ob q fun z => he (hx b z), u.tups, u.frzs, u.tbls⟩
end
def trk (h : Heap) (H : Hp) : List Addr := (List.range h.objs.size).filter fun a => (H a).isSome
def hidT (h : Heap) (H : Hp) : Heap := PySem.W.hideAll h (trk h H)
theorem hidT_size (h : Heap) (H : Hp) : (hidT h H).objs.size = h.objs.size := PySem.W.hideAll_size _ _
theorem hidT_get {h : Heap} {H : Hp} {b : Addr} {o : Obj} (e : h.get? b = some o) (n : H b = none) : (hidT h H).get? b = some o :=
  PySem.W.hideAll_get _ e fun hm => by
    have q : (H b).isSome = true := (List.mem_filter.mp hm).2
    rw [n] at q; simp at q
theorem of_hidT {h : Heap} {H : Hp} {b : Addr} {o : Obj} (e : (hidT h H).get? b = some o) : h.get? b = some o ∧ H b = none := by
  have e' : h.get? b = some o := PySem.W.of_hideAll (trk h H) e
  refine ⟨e', ?_⟩
  cases q : H b with
  | none => rfl
  | some x =>
    have hm : b ∈ trk h H := List.mem_filter.mpr ⟨List.mem_range.mpr (Heap.lt_size e'), by simp [q]⟩
    have z : (hidT h H).get? b = none := PySem.W.hideAll_none (trk h H) hm
    rw [z] at e; cases e
def allNews (g h : Heap) (L : Addr) : List (Addr × Obj) := (List.range h.objs.size).filterMap fun a => if a = L ∨ (g.get? a).isSome = true then none else (h.get? a).map fun o => (a, o)
def rest (g h : Heap) (L d : Addr) : List (Addr × Obj) := (allNews g h L).filter fun p => decide (p.1 ≠ d)
end L2
namespace L2
open PySem PySem.Spec PyProof.Rows
structure Mod (K : PySem.W.Frag) (mg : Str → Option Value) (base : Heap) : Prop where
  kin : K.In base
  glob : base.Ns mainGlobals mg
  blt : ∃ mb, base.Ns builtinsNs mb ∧ ∀ x : Str, x ≠ "__name__" → mb x = bootBuiltins x
  nolimit : base.NoLimit
structure Cx where
  prog : Program
  w : World
  K : PySem.W.Frag
  mg : Str → Option Value
  base : Heap
  A : Around
  N : List Str
  s₀ : Shared
  H₀ : Hp
  env : Env
  outer : List Env
  stack : List Env
  ex : List Addr
  fn : Str → Bool
  calm : Bool
  pn : List (Addr × Obj)
  xe : Value → Shared → Prop
def frs (l : List Env) : List Addr := l.filterMap (·.frame)
abbrev Cx.fs (X : Cx) : List Addr := frs X.outer
def Vis (sc : Scope) (x : Str) : Prop := sc.names.lookup x = some .local ∨ sc.names.lookup x = some .cell ∨ sc.names.lookup x = some .free
def Loc (sc : Scope) (x : Str) : Prop := sc.names.lookup x = some .local ∨ sc.names.lookup x = some .cell
def Look (env : Env) (h : Heap) (m : Str → Option Value) (x : Str) (u : Value) : Prop :=
  (env.kindOf x = some .local ∧ m x = some u) ∨ ((env.kindOf x = some .cell ∨ env.kindOf x = some .free) ∧ ∃ c, env.cells.lookup x = some c ∧ h.IsCell c (some u))
structure Cx.Ok (X : Cx) : Prop where
  mod : Mod X.K X.mg X.base
  kind : X.env.scope.kind = .function
  glob : X.env.globals = mainGlobals
  blt : X.env.builtins = builtinsNs
  above : X.s₀.heap.objs.size ≤ X.env.locals
  inj : ∀ x y c, X.env.cells.lookup x = some c → X.env.cells.lookup y = some c → x = y
  has : ∀ x, (X.env.kindOf x = some .cell ∨ X.env.kindOf x = some .free) → ∃ c, X.env.cells.lookup x = some c
  cab : ∀ x c, X.fn x = true → X.env.cells.lookup x = some c → X.s₀.heap.objs.size ≤ c
  hd : X.calm = true → X.A.handled = none
  frames : X.A.frames = some X.stack
  stk : X.stack = X.outer ∨ (X.stack = X.env :: X.outer ∧ X.env.frame = some X.env.locals)
  exf : ∀ b ∈ X.ex, b ≠ X.env.locals ∧ ∀ x c, X.env.cells.lookup x = some c → c ≠ b
  bs : ∀ b o, X.base.get? b = some o → X.s₀.heap.get? b = some o ∧ X.H₀ b = none
  bsz : X.base.objs.size ≤ X.s₀.heap.objs.size
  noex : ∀ b o, X.base.get? b = some o → b ∉ X.ex
  exfs : ∀ b ∈ X.ex, b ∉ X.fs
  funs : X.s₀.heap.FunFrames X.base X.outer
  frf : ∀ b ∈ X.fs, X.H₀ b = none
structure Inv (X : Cx) (pins : List (Addr × Obj)) (σ : List (Option V)) (H : Hp) (s : Shared) : Prop where
  ok : X.Ok
  os : s.os = X.s₀.os
  bare : AllBare s.gens
  base : Un X.fs X.ex X.H₀ H X.s₀.heap s.heap
  loc : ∃ m, s.heap.Ns X.env.locals m ∧ ∀ (i : Nat) (x : Str) (v : V), X.N[i]? = some x → σ[i]? = some (some v) → Vis X.env.scope x → ∃ u, RelV v u ∧ Look X.env s.heap m x u
  cell : ∀ x c, X.env.cells.lookup x = some c → ∃ v, s.heap.IsCell c v
  free : H X.env.locals = none
  freeC : ∀ x c, X.env.cells.lookup x = some c → H c = none
  pin : ∀ p ∈ X.pn ++ pins, s.heap.get? p.1 = some p.2 ∧ H p.1 = none ∧ p.1 ≠ X.env.locals ∧ p.1 ∉ X.fs ∧ ∀ v, p.2.data ≠ .cell v
  hok : HOk X.prog X.w H s.heap
  len : σ.length = X.N.length
section
variable {X : Cx} {pins : List (Addr × Obj)} {σ : List (Option V)} {H H' : Hp} {s : Shared} {h' : Heap}
theorem Cx.Ok.nofr (ok : X.Ok) {b : Addr} {o : Obj} (e : X.base.get? b = some o) : b ∉ X.fs := fun hb => by
  have := (ok.funs.mem hb).1
  rw [e] at this; cases this
theorem Inv.bs (I : Inv X pins σ H s) : ∀ b o, X.base.get? b = some o → s.heap.get? b = some o ∧ H b = none := fun b o e =>
  ⟨I.base.keep b o (I.ok.bs b o e).1 (I.ok.bs b o e).2 (I.ok.nofr e) (I.ok.noex b o e), I.base.free b o (I.ok.bs b o e).1 (I.ok.bs b o e).2 (I.ok.noex b o e)⟩
theorem Inv.bk (I : Inv X pins σ H s) : ∀ b o, X.base.get? b = some o → s.heap.get? b = some o := fun b o e => (I.bs b o e).1
theorem Inv.mod (I : Inv X pins σ H s) : Mod X.K X.mg X.base := I.ok.mod
theorem Inv.kIn (I : Inv X pins σ H s) : X.K.In s.heap := I.ok.mod.kin.keeps I.bk
theorem Inv.nolimit (I : Inv X pins σ H s) : s.heap.NoLimit := I.ok.mod.nolimit.keeps I.bk
theorem Inv.fr (I : Inv X pins σ H s) : ∃ m, Fr X.base X.env.locals s.heap m :=
  let ⟨m, hn, _⟩ := I.loc
  ⟨m, hn, I.bk, Nat.le_trans I.ok.bsz I.ok.above⟩
theorem Inv.lt (I : Inv X pins σ H s) : X.env.locals < s.heap.objs.size := let ⟨_, hn, _⟩ := I.loc; hn.lt
theorem Inv.sz (I : Inv X pins σ H s) : X.s₀.heap.objs.size ≤ s.heap.objs.size := Nat.le_trans I.ok.above (Nat.le_of_lt I.lt)
theorem Inv.nofs (I : Inv X pins σ H s) {a : Addr} (h : s.heap.objs.size ≤ a) : a ∉ X.fs := fun hb => by
  obtain ⟨_, o, ho, _⟩ := I.ok.funs.mem hb
  exact absurd (Nat.lt_of_lt_of_le (Heap.lt_size ho) (Nat.le_trans I.sz h)) (Nat.lt_irrefl _)
theorem Inv.cne (I : Inv X pins σ H s) : ∀ x c, X.env.cells.lookup x = some c → c ≠ X.env.locals := fun x c e z => by
  obtain ⟨v, o, ho, hd⟩ := I.cell x c e
  obtain ⟨m, ⟨o', es, ep, ho', hd', _⟩, _⟩ := I.loc
  rw [z, ho'] at ho; cases ho; rw [hd'] at hd; cases hd
theorem Inv.funs (I : Inv X pins σ H s) : s.heap.FunFrames X.base X.outer := by
  have all : ∀ (l : List Env), (∀ b ∈ frs l, b ∈ X.fs) → X.s₀.heap.FunFrames X.base l → s.heap.FunFrames X.base l := by
    intro l
    induction l with
    | nil => intro _ _; trivial
    | cons env r ih =>
      intro hs hl
      obtain ⟨hk, ⟨L, o, hf, hn, ho, hd⟩, hr⟩ := hl
      have hL : L ∈ X.fs := hs L (by unfold frs; rw [List.filterMap_cons, hf]; exact List.mem_cons_self)
      obtain ⟨sl, e⟩ := I.base.slot L o ho (I.ok.frf L hL) hL fun z => I.ok.exfs L z hL
      exact ⟨hk, ⟨L, _, hf, hn, e, hd⟩, ih (fun b hb => hs b (by unfold frs; rw [List.filterMap_cons, hf]; exact List.mem_cons_of_mem _ hb)) hr⟩
  exact all X.outer (fun _ hb => hb) I.ok.funs
theorem Inv.stack (I : Inv X pins σ H s) : s.heap.FunFrames X.base X.stack := by
  rcases I.ok.stk with e | ⟨e, hf⟩
  · rw [e]; exact I.funs
  · rw [e]
    obtain ⟨m, hn, _⟩ := I.loc
    refine .cons (by rw [I.ok.kind]; decide) hf hn ?_ I.funs
    exact Heap.get?_none_of_le (Nat.le_trans I.ok.bsz I.ok.above)
theorem Inv.stkSub (I : Inv X pins σ H s) : ∀ b ∈ frs X.stack, b ∈ X.env.locals :: X.fs := fun b hb => by
  rcases I.ok.stk with e | ⟨e, hf⟩
  · rw [e] at hb; exact List.mem_cons_of_mem _ hb
  · rw [e] at hb
    unfold frs at hb
    rw [List.filterMap_cons, hf] at hb
    exact hb
theorem Inv.stkFree (I : Inv X pins σ H s) : ∀ b ∈ frs X.stack, H b = none := fun b hb => by
  rcases List.mem_cons.mp (I.stkSub b hb) with e | hb
  · rw [e]; exact I.free
  · obtain ⟨_, o, ho, _⟩ := I.ok.funs.mem hb
    exact I.base.free b o ho (I.ok.frf b hb) fun z => I.ok.exfs b z hb
theorem Inv.step {g' : Array GenState} {t' : Nat} {d' : Drawn} {ch : List Addr} (I : Inv X pins σ H s)
    (hch : ∀ b ∈ ch, (b ∈ X.ex ∨ X.s₀.heap.objs.size ≤ b) ∧ b ≠ X.env.locals ∧ (∀ x c, X.env.cells.lookup x = some c → c ≠ b) ∧ ∀ p ∈ X.pn ++ pins, p.1 ≠ b)
    (keep : ∀ b o, b ≠ X.env.locals → b ∉ X.fs → b ∉ ch → s.heap.get? b = some o → H b = none → h'.get? b = some o)
    (slot : ∀ b o, b ≠ X.env.locals → b ∈ X.fs → b ∉ ch → s.heap.get? b = some o → H b = none → ∃ sl, h'.get? b = some { o with slots := sl }) (free : ∀ b o, b ∉ ch → s.heap.get? b = some o → H b = none → H' b = none)
    (there : ∀ b o, b ∉ ch → s.heap.get? b = some o → ∃ o', h'.get? b = some o')
    (tups : ∀ b xs, H b = some (.tup xs) → H' b = some (.tup xs)) (frzs : ∀ b o u, H b = some (.frz o u) → H' b = some (.frz o u)) (tbls : ∀ b ps, H b = some (.tbl ps) → ∃ more, H' b = some (.tbl (ps ++ more)))
    (ns : ∀ m, s.heap.Ns X.env.locals m → h'.Ns X.env.locals m) (hok : HOk X.prog X.w H' h') (hg : AllBare g') :
    Inv X pins σ H' { s with heap := h', gens := g', drawn := d', toks := t' } := by
  have neL : ∀ b o, X.s₀.heap.get? b = some o → b ≠ X.env.locals := fun b o e => Nat.ne_of_lt (Nat.lt_of_lt_of_le (Heap.lt_size e) I.ok.above)
  have neC : ∀ b o, X.s₀.heap.get? b = some o → b ∉ X.ex → b ∉ ch := fun b o e hx hb => by
    rcases (hch b hb).1 with z | z
    · exact hx z
    · exact absurd (Nat.lt_of_lt_of_le (Heap.lt_size e) z) (Nat.lt_irrefl _)
  have cellK : ∀ x c, X.env.cells.lookup x = some c → ∀ v, s.heap.IsCell c v → h'.IsCell c v := fun x c e v ⟨o, ho, hd⟩ => by
    have nch : c ∉ ch := fun z => (hch c z).2.2.1 x c e rfl
    by_cases hc : c ∈ X.fs
    · obtain ⟨sl, q⟩ := slot c o (I.cne x c e) hc nch ho (I.freeC x c e)
      exact ⟨_, q, hd⟩
    · exact ⟨o, keep c o (I.cne x c e) hc nch ho (I.freeC x c e), hd⟩
  refine ⟨I.ok, I.os, hg, ⟨fun b o e n hb hx => ?_, fun b o e n hb hx => ?_, fun b o e n hx => ?_, fun b o e hx => ?_, fun b xs e => tups b xs (I.base.tups b xs e), fun b o xs e => frzs b o xs (I.base.frzs b o xs e), fun b ps e => ?_⟩, ?_, fun x c e => ?_, ?_, fun x c e => ?_, fun p hp => ?_, hok, I.len⟩
  · exact keep b o (neL b o e) hb (neC b o e hx) (I.base.keep b o e n hb hx) (I.base.free b o e n hx)
  · obtain ⟨sl, e1⟩ := I.base.slot b o e n hb hx
    obtain ⟨sl', e2⟩ := slot b _ (neL b o e) hb (neC b o e hx) e1 (I.base.free b o e n hx)
    exact ⟨sl', e2⟩
  · obtain ⟨o', e1⟩ := I.base.there b o e hx
    exact free b o' (neC b o e hx) e1 (I.base.free b o e n hx)
  · obtain ⟨o', e1⟩ := I.base.there b o e hx
    exact there b o' (neC b o e hx) e1
  · obtain ⟨m1, e1⟩ := I.base.tbls b ps e
    obtain ⟨m2, e2⟩ := tbls b _ e1
    exact ⟨m1 ++ m2, by rw [e2, Array.append_assoc]⟩
  · obtain ⟨m, hn, hl⟩ := I.loc
    refine ⟨m, ns m hn, fun i x v e1 e2 e3 => ?_⟩
    obtain ⟨u, r, l⟩ := hl i x v e1 e2 e3
    refine ⟨u, r, ?_⟩
    rcases l with l | ⟨k, c, e, z⟩
    · exact .inl l
    · exact .inr ⟨k, c, e, cellK x c e _ z⟩
  · obtain ⟨v, z⟩ := I.cell x c e
    exact ⟨v, cellK x c e v z⟩
  · obtain ⟨m, ⟨o, _, _, ho, _⟩, _⟩ := I.loc
    exact free _ o (fun z => (hch _ z).2.1 rfl) ho I.free
  · obtain ⟨v, o, ho, hd⟩ := I.cell x c e
    exact free c o (fun z => (hch c z).2.2.1 x c e rfl) ho (I.freeC x c e)
  · obtain ⟨e, n, ne, nf, d⟩ := I.pin p hp
    have nch : p.1 ∉ ch := fun z => (hch p.1 z).2.2.2 p hp rfl
    exact ⟨keep p.1 p.2 ne nf nch e n, free p.1 p.2 nch e n, ne, nf, d⟩
theorem Inv.un {t' : Nat} (I : Inv X pins σ H s) (u : Un X.fs [] H H' s.heap h') (hok : HOk X.prog X.w H' h') : Inv X pins σ H' { s with heap := h', toks := t' } := by
  obtain ⟨m, ⟨o, es, ep, ho, r⟩, _⟩ := id I.loc
  obtain ⟨sl, hL⟩ := u.any ho I.free (by simp)
  exact I.step (g' := s.gens) (d' := s.drawn) (ch := []) (fun _ z => nomatch z) (fun b o _ hb _ e n => u.keep b o e n hb (by simp)) (fun b o _ hb _ e n => u.slot b o e n hb (by simp)) (fun b o _ e n => u.free b o e n (by simp)) (fun b o _ e => u.there b o e (by simp)) u.tups u.frzs u.tbls (fun m' hm => by
    obtain ⟨o', es', ep', ho', r'⟩ := hm
    rw [ho] at ho'; cases ho'
    exact ⟨_, es', ep', hL, r'⟩) hok I.bare
theorem Inv.call {g' : Array GenState} {t' : Nat} {d' : Drawn} {ch : List Addr} (I : Inv X pins σ H s) (u : Un (frs X.stack) ch H H' s.heap h') (hok : HOk X.prog X.w H' h') (hg : AllBare g')
    (hch : ∀ b ∈ ch, (b ∈ X.ex ∨ X.s₀.heap.objs.size ≤ b) ∧ b ≠ X.env.locals ∧ (∀ x c, X.env.cells.lookup x = some c → c ≠ b) ∧ ∀ p ∈ X.pn ++ pins, p.1 ≠ b) :
    Inv X pins σ H' { s with heap := h', gens := g', drawn := d', toks := t' } := by
  obtain ⟨m, ⟨o, es, ep, ho, r⟩, _⟩ := id I.loc
  obtain ⟨sl, hL⟩ := u.any ho I.free fun z => (hch _ z).2.1 rfl
  exact I.step (ch := ch) hch (fun b o hL hb hc e n => u.keep b o e n (fun z => (List.mem_cons.mp (I.stkSub b z)).elim hL hb) hc) (fun b o _ _ hc e n => u.any e n hc) (fun b o hc e n => u.free b o e n hc) (fun b o hc e => u.there b o e hc) u.tups u.frzs u.tbls (fun m' hm => by
    obtain ⟨o', es', ep', ho', r'⟩ := hm
    rw [ho] at ho'; cases ho'
    exact ⟨_, es', ep', hL, r'⟩) hok hg
theorem Inv.turned {t' : Nat} {it : Addr} (I : Inv X pins σ H s) (k : ∀ b o, b ≠ it → s.heap.get? b = some o → h'.get? b = some o) (hn : H it = none) (hL : it ≠ X.env.locals)
    (h1 : it ∈ X.ex ∨ X.s₀.heap.objs.size ≤ it) (h2 : ∀ x c, X.env.cells.lookup x = some c → c ≠ it) (h3 : ∀ p ∈ X.pn ++ pins, p.1 ≠ it) : Inv X pins σ H { s with heap := h', toks := t' } := by
  have nit : ∀ b u, H b = some u → b ≠ it := fun b u e z => by rw [z, hn] at e; cases e
  refine I.step (g' := s.gens) (d' := s.drawn) (ch := [it]) (fun b hb => ?_) (fun b o _ _ hc e _ => k b o (fun z => hc (by simp [z])) e) (fun b o _ _ hc e _ => ⟨o.slots, k b o (fun z => hc (by simp [z])) e⟩) (fun _ _ _ _ n => n)
    (fun b o hc e => ⟨o, k b o (fun z => hc (by simp [z])) e⟩) (fun _ _ e => e) (fun _ _ _ e => e) (fun b ps e => ⟨#[], by rw [e]; simp⟩) (fun m hm => ?_) (fun b u e => ?_) I.bare
  · have e : b = it := by simpa using hb
    subst e
    exact ⟨h1, hL, h2, h3⟩
  · obtain ⟨o, es, ep, ho, r⟩ := hm
    exact ⟨o, es, ep, k _ o (Ne.symm hL) ho, r⟩
  · refine (I.hok b u e).stay (fun c v hc q => k c v ?_ q) (fun _ q => q) fun _ _ q => q
    rcases hc with z | z
    · rw [z]; exact nit b u e
    · exact nit c _ z
theorem Inv.tok (I : Inv X pins σ H s) (t : Nat) : Inv X pins σ H { s with toks := t } := I.un (h' := s.heap) (t' := t) Un.refl I.hok
theorem Inv.kept {t' : Nat} (I : Inv X pins σ H s) (k : ∀ b u, s.heap.get? b = some u → h'.get? b = some u) : Inv X pins σ H { s with heap := h', toks := t' } := I.un (Un.kept k) (I.hok.kept k)
theorem Inv.laid {a : Addr} {o : HO} {t' : Nat} (I : Inv X pins σ H s) (k : ∀ b u, s.heap.get? b = some u → h'.get? b = some u) (hp : s.heap.objs.size ≤ a) (new : ObjOk X.prog X.w (upd H a o) h' a o) :
    Inv X pins σ (upd H a o) { s with heap := h', toks := t' } := I.un (Un.laid k hp (I.hok.fresh hp)) (I.hok.laid k hp new)
theorem Inv.write {x e : Addr} {o : HO} {t' : Nat} (I : Inv X pins σ H s) (mu : Mut (H x)) (he : e = x ∨ H e = some (.own x)) (k : ∀ b u, b ≠ e → s.heap.get? b = some u → h'.get? b = some u) (heo : ∃ u, h'.get? e = some u)
    (new : ObjOk X.prog X.w (upd H x o) h' x o) : Inv X pins σ (upd H x o) { s with heap := h', toks := t' } := I.un (Un.write mu he k heo) (I.hok.write mu he k heo new)
theorem Inv.pins_of {pins' : List (Addr × Obj)} (I : Inv X pins σ H s) (h : ∀ p ∈ pins', s.heap.get? p.1 = some p.2 ∧ H p.1 = none ∧ p.1 ≠ X.env.locals ∧ p.1 ∉ X.fs ∧ ∀ v, p.2.data ≠ .cell v) : Inv X pins' σ H s :=
  ⟨I.ok, I.os, I.bare, I.base, I.loc, I.cell, I.free, I.freeC, fun p hp => (List.mem_append.mp hp).elim (fun z => I.pin p (List.mem_append_left _ z)) (h p), I.hok, I.len⟩
theorem nodup_ix {N : List Str} (hN : N.Nodup) {i j : Nat} {x : Str} (a : N[i]? = some x) (b : N[j]? = some x) : i = j := by
  obtain ⟨h1, e1⟩ := List.getElem?_eq_some_iff.mp a
  obtain ⟨h2, e2⟩ := List.getElem?_eq_some_iff.mp b
  exact (List.getElem_inj hN).mp (e1.trans e2.symm)
theorem store_ok2 {M : Model} {A : Around} {E : Value → Shared → Prop} {i : Nat} {x : Str} {v : V} {u : Value} {Q : Unit → Shared → Prop} (I : Inv X pins σ H s) (hN : X.N.Nodup) (hi : X.N[i]? = some x) (hx : Loc X.env.scope x) (r : RelV v u)
    (h : ∀ s', Inv X pins (σ.set i (some v)) H s' → (∃ a, Heap.SameBut a s.heap s'.heap ∧ (a = X.env.locals ∨ X.env.cells.lookup x = some a)) → Q () s') (hf : X.fn x = true ∨ X.env.scope.names.lookup x = some .local := by first | exact .inl rfl | exact .inr rfl | assumption) : wpAny M A (storeName X.env x u) Q E s := by
  obtain ⟨m, hn, hl⟩ := id I.loc
  have hcls : (X.env.scope.kind == .class || (X.env.scope.kind == .module && X.env.locals != X.env.globals)) = false := by rw [I.ok.kind]; rfl
  have hiσ : i < σ.length := by rw [I.len]; exact (List.getElem?_eq_some_iff.mp hi).1
  have cne := I.cne
  have tracked : ∀ {a : Addr} {h' : Heap}, (∃ o, s.heap.get? a = some o ∧ H a = none) → Heap.SameBut a s.heap h' → HOk X.prog X.w H h' := fun {a h'} ha hs b ob e => by
    obtain ⟨_, _, hfree⟩ := ha
    refine (I.hok b ob e).stay (fun c w' hc q => (hs.2 c ?_).trans q) (fun _ q => q) fun _ _ q => q
    rintro rfl
    rcases hc with rfl | hc
    · rw [hfree] at e; cases e
    · rw [hfree] at hc; cases hc
  rcases hx with hk | hk
  · refine wpAny_storeName_local hk hn (fun h' hn' hs => ?_) hcls
    obtain ⟨oL, _, _, hoL, _⟩ := id hn
    refine h _ ⟨I.ok, I.os, I.bare, ⟨fun b o e n hb hx => ?_, fun b o e n hb hx => ?_, I.base.free, fun b o e hx => ?_, I.base.tups, I.base.frzs, I.base.tbls⟩, ⟨_, hn', fun j y v' e1 e2 e3 => ?_⟩, fun y c e => ?_, I.free, I.freeC, fun p hp => ?_, tracked ⟨oL, hoL, I.free⟩ hs, by simpa using I.len⟩ ⟨_, hs, .inl rfl⟩
    · exact (hs.2 b (Nat.ne_of_lt (Nat.lt_of_lt_of_le (Heap.lt_size e) I.ok.above))).trans (I.base.keep b o e n hb hx)
    · obtain ⟨sl, e1⟩ := I.base.slot b o e n hb hx
      exact ⟨sl, (hs.2 b (Nat.ne_of_lt (Nat.lt_of_lt_of_le (Heap.lt_size e) I.ok.above))).trans e1⟩
    · obtain ⟨o', e1⟩ := I.base.there b o e hx
      exact ⟨o', (hs.2 b (Nat.ne_of_lt (Nat.lt_of_lt_of_le (Heap.lt_size e) I.ok.above))).trans e1⟩
    · by_cases hj : j = i
      · subst hj
        rw [hi] at e1; cases e1
        rw [List.getElem?_set_self hiσ] at e2
        cases e2
        exact ⟨u, r, .inl ⟨hk, by simp⟩⟩
      · rw [List.getElem?_set_ne (Ne.symm hj)] at e2
        obtain ⟨u', r', q⟩ := hl j y v' e1 e2 e3
        refine ⟨u', r', ?_⟩
        rcases q with ⟨k, e⟩ | ⟨k, c, e, z⟩
        · refine .inl ⟨k, ?_⟩
          have : y ≠ x := fun e => hj (nodup_ix hN e1 (e ▸ hi))
          simp [this, e]
        · exact .inr ⟨k, c, e, z.sameBut hs (cne y c e)⟩
    · obtain ⟨w', z⟩ := I.cell y c e
      exact ⟨w', z.sameBut hs (cne y c e)⟩
    · obtain ⟨e, n, ne, nf, d⟩ := I.pin p hp
      exact ⟨(hs.2 p.1 ne).trans e, n, ne, nf, d⟩
  · have hfn : X.fn x = true := by
      rcases hf with z | z
      · exact z
      · rw [z] at hk; cases hk
    obtain ⟨c, hc⟩ := I.ok.has x (.inl hk)
    obtain ⟨w', z⟩ := I.cell x c hc
    refine wpAny_storeName_cell I.ok.kind hk hc z (fun h' hc' hs => ?_)
    obtain ⟨oc, hoc, hocd⟩ := id z
    refine h { s with heap := h' } ⟨I.ok, I.os, I.bare, ⟨fun b o e n hb hx => ?_, fun b o e n hb hx => ?_, I.base.free, fun b o e hx => ?_, I.base.tups, I.base.frzs, I.base.tbls⟩, ⟨m, hn.sameBut hs (Ne.symm (cne x c hc)), fun j y v' e1 e2 e3 => ?_⟩, fun y c' e => ?_, I.free, I.freeC, fun p hp => ?_, tracked ⟨oc, hoc, I.freeC x c hc⟩ hs, by simpa using I.len⟩ ⟨c, hs, .inr hc⟩
    · exact (hs.2 b (Nat.ne_of_lt (Nat.lt_of_lt_of_le (Heap.lt_size e) (I.ok.cab x c hfn hc)))).trans (I.base.keep b o e n hb hx)
    · obtain ⟨sl, e1⟩ := I.base.slot b o e n hb hx
      exact ⟨sl, (hs.2 b (Nat.ne_of_lt (Nat.lt_of_lt_of_le (Heap.lt_size e) (I.ok.cab x c hfn hc)))).trans e1⟩
    · obtain ⟨o', e1⟩ := I.base.there b o e hx
      exact ⟨o', (hs.2 b (Nat.ne_of_lt (Nat.lt_of_lt_of_le (Heap.lt_size e) (I.ok.cab x c hfn hc)))).trans e1⟩
    · by_cases hj : j = i
      · subst hj
        rw [hi] at e1; cases e1
        rw [List.getElem?_set_self hiσ] at e2
        cases e2
        exact ⟨u, r, .inr ⟨.inl hk, c, hc, hc'⟩⟩
      · rw [List.getElem?_set_ne (Ne.symm hj)] at e2
        obtain ⟨u', r', q⟩ := hl j y v' e1 e2 e3
        refine ⟨u', r', ?_⟩
        rcases q with q | ⟨k, c', e, z'⟩
        · exact .inl q
        · refine .inr ⟨k, c', e, z'.sameBut hs ?_⟩
          rintro rfl
          exact hj (nodup_ix hN e1 (I.ok.inj _ _ _ e hc ▸ hi))
    · by_cases hcc : c' = c
      · subst hcc; exact ⟨_, hc'⟩
      · obtain ⟨w2, z2⟩ := I.cell y c' e
        exact ⟨w2, z2.sameBut hs hcc⟩
    · obtain ⟨e, n, ne, nf, d⟩ := I.pin p hp
      refine ⟨(hs.2 p.1 ?_).trans e, n, ne, nf, d⟩
      intro q
      rw [q, hoc] at e
      have q' : oc = p.2 := Option.some.inj e
      exact d w' (by rw [← q']; exact hocd)
theorem store_ok {M : Model} {A : Around} {E : Value → Shared → Prop} {i : Nat} {x : Str} {v : V} {u : Value} {Q : Unit → Shared → Prop} (I : Inv X pins σ H s) (hN : X.N.Nodup) (hi : X.N[i]? = some x) (hx : Loc X.env.scope x) (r : RelV v u)
    (h : ∀ s', Inv X pins (σ.set i (some v)) H s' → Q () s') (hf : X.fn x = true ∨ X.env.scope.names.lookup x = some .local := by first | exact .inl rfl | exact .inr rfl | assumption) : wpAny M A (storeName X.env x u) Q E s :=
  store_ok2 I hN hi hx r (fun s' I' _ => h s' I') hf
theorem Inv.call' {s' : Shared} {ch : List Addr} (I : Inv X pins σ H s) (ho : s'.os = s.os) (u : Un (frs X.stack) ch H H' s.heap s'.heap) (hok : HOk X.prog X.w H' s'.heap) (hg : AllBare s'.gens)
    (hch : ∀ b ∈ ch, (b ∈ X.ex ∨ X.s₀.heap.objs.size ≤ b) ∧ b ≠ X.env.locals ∧ (∀ x c, X.env.cells.lookup x = some c → c ≠ b) ∧ ∀ p ∈ X.pn ++ pins, p.1 ≠ b) : Inv X pins σ H' s' := by
  obtain ⟨h', g', d', t', o'⟩ := s'
  have e : o' = s.os := ho
  subst e
  exact I.call (g' := g') (t' := t') (d' := d') u hok hg hch
end
abbrev XK := Value → Option Addr → Hp → Prop
abbrev St := List (Option V)
abbrev VK := V → Hp → Prop
abbrev TE := St → Hp → VK → Prop
abbrev TT := St → Hp → (Bool → Hp → Prop) → Prop
abbrev TA := St → Hp → (List V → Hp → Prop) → Prop
structure Ends where
  nx : St → Hp → Prop
  rt : VK
  bk : St → Hp → Prop := fun _ _ => False
  ct : St → Hp → Prop := fun _ _ => False
abbrev TS := Ends → St → Hp → Prop
def EP (X : Cx) (pins : List (Addr × Obj)) (σ : St) (Q : VK) (u : Value) (s' : Shared) : Prop := ∃ v H', Inv X pins σ H' s' ∧ RelV v u ∧ Q v H'
def TP (X : Cx) (pins : List (Addr × Obj)) (σ : St) (Q : Bool → Hp → Prop) (b : Bool) (s' : Shared) : Prop := ∃ H', Inv X pins σ H' s' ∧ Q b H'
def AP (X : Cx) (pins : List (Addr × Obj)) (σ : St) (Q : List V → Hp → Prop) (us : List Value) (s' : Shared) : Prop := ∃ vs H', Inv X pins σ H' s' ∧ Vals vs us ∧ Q vs H'
def SP (X : Cx) (pins : List (Addr × Obj)) (D : Ends) (f : Flow) (s' : Shared) : Prop :=
  match f with
  | .next => ∃ σ' H', Inv X pins σ' H' s' ∧ D.nx σ' H'
  | .brk => ∃ σ' H', Inv X pins σ' H' s' ∧ D.bk σ' H'
  | .cont => ∃ σ' H', Inv X pins σ' H' s' ∧ D.ct σ' H'
  | .ret u => ∃ v σ' H', Inv X pins σ' H' s' ∧ RelV v u ∧ D.rt v H'
def PE (X : Cx) (e : Expr) (t : TE) : Prop :=
  ∀ (pins : List (Addr × Obj)) (s : Shared) (σ : St) (H : Hp) (Q : VK), Inv X pins σ H s → t σ H Q → wpAny (model X.prog X.w) X.A (eval e X.env) (EP X pins σ Q) X.xe s
def PT (X : Cx) (e : Expr) (t : TT) : Prop :=
  ∀ (pins : List (Addr × Obj)) (s : Shared) (σ : St) (H : Hp) (Q : Bool → Hp → Prop), Inv X pins σ H s → t σ H Q → wpAny (model X.prog X.w) X.A (isTrue e X.env (eval e X.env)) (TP X pins σ Q) X.xe s
def PW (X : Cx) (e : Expr) (t : TT) : Prop :=
  ∀ (whole : Sem Value) (pins : List (Addr × Obj)) (s : Shared) (σ : St) (H : Hp) (Q : Bool → Hp → Prop), Inv X pins σ H s → t σ H Q → wpAny (model X.prog X.w) X.A (isTrue e X.env whole) (TP X pins σ Q) X.xe s
theorem PW.pt {X : Cx} {e : Expr} {t : TT} (h : PW X e t) : PT X e t := h _
def PA (X : Cx) (es : List Expr) (t : TA) : Prop :=
  ∀ (pos : Pos) (pins : List (Addr × Obj)) (s : Shared) (σ : St) (H : Hp) (Q : List V → Hp → Prop), Inv X pins σ H s → t σ H Q → wpAny (model X.prog X.w) X.A (spliced (backTo pos (starEach es X.env))) (AP X pins σ Q) X.xe s
def PS (X : Cx) (st : Stmt) (t : TS) : Prop :=
  ∀ (pins : List (Addr × Obj)) (s : Shared) (σ : St) (H : Hp) (D : Ends), Inv X pins σ H s → t D σ H → wpAny (model X.prog X.w) X.A (exec st X.env) (SP X pins D) X.xe s
def PSs (X : Cx) (st : List Stmt) (t : TS) : Prop :=
  ∀ (pins : List (Addr × Obj)) (s : Shared) (σ : St) (H : Hp) (D : Ends), Inv X pins σ H s → t D σ H → wpAny (model X.prog X.w) X.A (execs st X.env) (SP X pins D) X.xe s
theorem thn {α : Type} {t : Sem α} {Q Q' : α → Shared → Prop} {M : Model} {A : Around} {E : Value → Shared → Prop} {s : Shared} (h : wpAny M A t Q E s) (hQ : ∀ a s, Q a s → Q' a s) : wpAny M A t Q' E s := wpAny_mono h hQ fun _ _ x => x
end L2
namespace L2
open PySem PySem.Spec PyProof.Rows
section
variable {X : Cx}
def tVar (i : Nat) : TE := fun σ H Q => ∃ v, σ[i]? = some (some v) ∧ Q v H
def tC (v : V) : TE := fun _ H Q => Q v H
theorem pe_var {i : Nat} {x : Str} {pos : Pos} (hN : X.N[i]? = some x) (hv : Vis X.env.scope x) (hd : (x == ("__debug__" : Str)) = false := by decide) (hcd : (x == ("__classdict__" : Str)) = false := by decide) : PE X (.Name x pos) (tVar i) := by
  intro pins s σ H Q I h
  obtain ⟨v, e, h⟩ := h
  obtain ⟨m, hn, hl⟩ := I.loc
  obtain ⟨u, r, l⟩ := hl i x v hN e hv
  have fin : EP X pins σ Q u s := ⟨v, H, I, r, h⟩
  rcases l with ⟨hk, hm⟩ | ⟨hk, c, hc, hcell⟩
  · exact wpAny_Name (wpAny_loadName_local I.ok.kind hk hn hm fin) hd
  · rcases hk with hk | hk
    · exact wpAny_Name (wpAny_loadName_cell I.ok.kind hk hc hcell fin) hd
    · exact wpAny_Name (wpAny_loadName_free I.ok.kind hk hc hcell fin hcd) hd
theorem pe_int {i j pos} : PE X (.Constant (.int i) j pos) (tC (.int i)) := fun _ _ _ H _ I h => wpAny_Constant_int ⟨.int i, H, I.tok _, ⟨_, rfl⟩, h⟩
theorem pe_bl {b j pos} : PE X (.Constant (.bool b) j pos) (tC (.bl b)) := fun _ _ _ H _ I h => Constant_bool ⟨.bl b, H, I, rfl, h⟩
theorem pe_non {j pos} : PE X (.Constant .none j pos) (tC .non) := fun _ _ _ H _ I h => Constant_none ⟨.non, H, I, rfl, h⟩
theorem pe_str {x j pos} : PE X (.Constant (.str x) j pos) (tC (.str x)) := fun _ _ _ H _ I h => Calls.Constant_str ⟨.str x, H, I.tok _, ⟨_, rfl⟩, h⟩
def Gl (X : Cx) (x : Str) : Prop := X.env.kindOf x = some .globalImplicit
theorem ld_glob {E : Value → Shared → Prop} {pins : List (Addr × Obj)} {s : Shared} {σ : St} {H : Hp} {x : Str} {u : Value} {pos : Pos} {Q : Value → Shared → Prop} (I : Inv X pins σ H s) (hg : Gl X x) (hm : X.mg x = some u) (h : Q u s)
    (hd : (x == ("__debug__" : Str)) = false := by decide) : wpAny (model X.prog X.w) X.A (eval (.Name x pos) X.env) Q E s :=
  Calls.Name_function_global I.ok.kind hg (Calls.loadGlobal_global (by rw [I.ok.glob]; exact I.mod.glob.keeps I.bk) hm h) hd
theorem ld_blt {E : Value → Shared → Prop} {pins : List (Addr × Obj)} {s : Shared} {σ : St} {H : Hp} {x : Str} {u : Value} {pos : Pos} {Q : Value → Shared → Prop} (I : Inv X pins σ H s) (hg : Gl X x) (hm : X.mg x = none) (hv : bootBuiltins x = some u) (h : Q u s)
    (hn : x ≠ "__name__" := by decide) (hd : (x == ("__debug__" : Str)) = false := by decide) : wpAny (model X.prog X.w) X.A (eval (.Name x pos) X.env) Q E s := by
  obtain ⟨mb, h1, h2⟩ := I.mod.blt
  exact Calls.Name_function_global I.ok.kind hg (Calls.loadGlobal_builtin (by rw [I.ok.glob]; exact I.mod.glob.keeps I.bk) hm (by rw [I.ok.blt]; exact h1.keeps I.bk) ((h2 x hn).trans hv) h) hd
theorem pe_glob {x : Str} {v : V} {u : Value} {pos : Pos} (hg : Gl X x) (hm : X.mg x = some u) (r : RelV v u) (hd : (x == ("__debug__" : Str)) = false := by decide) : PE X (.Name x pos) (tC v) :=
  fun _ _ _ H _ I h => ld_glob I hg hm ⟨v, H, I, r, h⟩ hd
theorem pe_bltn {x : Str} {v : V} {u : Value} {pos : Pos} (hg : Gl X x) (hm : X.mg x = none) (hv : bootBuiltins x = some u) (r : RelV v u) (hn : x ≠ "__name__" := by decide) (hd : (x == ("__debug__" : Str)) = false := by decide) : PE X (.Name x pos) (tC v) :=
  fun _ _ _ H _ I h => ld_blt I hg hm hv ⟨v, H, I, r, h⟩ hn hd
variable {a b : Expr} {ta tb : TE} {pos : Pos}
def PC (X : Cx) (op : CmpOp) (a b : Expr) (t : TE) : Prop :=
  ∀ (pins : List (Addr × Obj)) (s : Shared) (σ : St) (H : Hp) (Q : VK), Inv X pins σ H s → t σ H Q →
    wpAny (model X.prog X.w) X.A (eval a X.env) (fun v s₁ => wpAny (model X.prog X.w) X.A (eval b X.env) (fun u s₂ => wpAny (model X.prog X.w) X.A (compareOp op v u) (EP X pins σ Q) X.xe s₂) X.xe s₁) X.xe s
theorem nobehind (b : Expr) {op : CmpOp} (h : op ≠ .In) (h2 : op ≠ .NotIn) : behindInMarks op b = false := by
  have e1 : (op == CmpOp.In) = false := by cases op <;> first | rfl | exact absurd rfl h
  have e2 : (op == CmpOp.NotIn) = false := by cases op <;> first | rfl | exact absurd rfl h2
  cases b <;> simp [behindInMarks, e1, e2]
def tB (t : TE) : TT := fun σ H Q => t σ H fun x H1 => ∃ c, x = .bl c ∧ Q c H1
theorem pt_cmp {op : CmpOp} {t : TE} (h : PC X op a b t) (h1 : behindInMarks op b = false := by first | exact nobehind _ (by decide) (by decide) | rfl) : PT X (.Compare a [op] [b] pos) (tB t) := by
  intro pins s σ H Q I hw
  refine wpAny_isTrue_Compare1 (thn (h pins s σ H _ I hw) fun v s1 h1 => thn h1 fun u s2 h2 => thn h2 fun c s3 ⟨x, H1, I1, r1, q1⟩ => ?_) h1
  obtain ⟨d, rfl, q⟩ := q1
  cases r1
  exact wpAny_truthy_bool ⟨H1, I1, q⟩
theorem pt_val {e : Expr} {t : TE} (h : PE X e t) (he : ∀ whole, isTrue e X.env whole = (do let v ← whole; standAt e.pos; holding [v] (truthy v)) := by intro _; rfl) : PT X e (tB t) := by
  intro pins s σ H Q I hw
  refine isTrue_plain (thn (h pins s σ H _ I hw) fun v s1 ⟨x, H1, I1, r1, q1⟩ => ?_) (he _)
  obtain ⟨d, rfl, q⟩ := q1
  cases r1
  exact wpAny_truthy_bool ⟨H1, I1, q⟩
variable {tA tB' : TT} {rest : List Expr}
def tAnd (t u : TT) : TT := fun σ H Q => t σ H fun c H1 => if c = true then u σ H1 Q else Q false H1
def tOr (t u : TT) : TT := fun σ H Q => t σ H fun c H1 => if c = true then Q true H1 else u σ H1 Q
def tNot (t : TT) : TT := fun σ H Q => t σ H fun c H1 => Q (!c) H1
theorem pw_and1 (ha : PT X a tA) : PW X (.BoolOp .And [a] pos) tA := by
  intro wh pins s σ H Q I h
  refine isTrue_and (thn (ha pins s σ H Q I h) fun c s1 e => ?_)
  cases c with
  | true => exact isTrue_and_nil e
  | false => exact e
theorem pw_or1 (ha : PT X a tA) : PW X (.BoolOp .Or [a] pos) tA := by
  intro wh pins s σ H Q I h
  refine isTrue_or (thn (ha pins s σ H Q I h) fun c s1 e => ?_)
  cases c with
  | false => exact isTrue_or_nil e
  | true => exact e
theorem pw_and (ha : PT X a tA) (hb : PW X (.BoolOp .And (b :: rest) pos) tB') : PW X (.BoolOp .And (a :: b :: rest) pos) (tAnd tA tB') := by
  intro wh pins s σ H Q I h
  refine isTrue_and (thn (ha pins s σ H _ I h) fun c s1 ⟨H1, I1, q1⟩ => ?_)
  cases c with
  | true => exact hb wh pins s1 σ H1 Q I1 q1
  | false => exact ⟨H1, I1, q1⟩
theorem pw_or (ha : PT X a tA) (hb : PW X (.BoolOp .Or (b :: rest) pos) tB') : PW X (.BoolOp .Or (a :: b :: rest) pos) (tOr tA tB') := by
  intro wh pins s σ H Q I h
  refine isTrue_or (thn (ha pins s σ H _ I h) fun c s1 ⟨H1, I1, q1⟩ => ?_)
  cases c with
  | true => exact ⟨H1, I1, q1⟩
  | false => exact hb wh pins s1 σ H1 Q I1 q1
theorem pt_not (ha : PT X a tA) : PT X (.UnaryOp .Not a pos) (tNot tA) := by
  intro pins s σ H Q I h
  exact isTrue_not (ha pins s σ H (fun c H1 => Q (!c) H1) I h)
def tAndV (ta tb : TE) : TE := fun σ H Q => ta σ H fun x H1 => ∃ c, x = .bl c ∧ if c = true then tb σ H1 Q else Q (.bl false) H1
def tOrV (ta tb : TE) : TE := fun σ H Q => ta σ H fun x H1 => ∃ c, x = .bl c ∧ if c = true then Q (.bl true) H1 else tb σ H1 Q
theorem pe_one {op} {t : TE} (h : PE X a t) : PE X (.BoolOp op [a] pos) t := fun pins s σ H Q I hw => BoolOp_one (h pins s σ H Q I hw)
theorem pe_and (ha : PE X a ta) (hb : PE X (.BoolOp .And (b :: rest) pos) tb) : PE X (.BoolOp .And (a :: b :: rest) pos) (tAndV ta tb) := by
  intro pins s σ H Q I h
  refine BoolOp_and (thn (ha pins s σ H _ I h) fun v s1 ⟨x, H1, I1, r1, q1⟩ => ?_)
  obtain ⟨c, rfl, q1⟩ := q1
  cases r1
  refine wpAny_truthy_bool ?_
  cases c with
  | true => exact hb pins s1 σ H1 Q I1 q1
  | false => exact ⟨.bl false, H1, I1, rfl, q1⟩
theorem pe_or (ha : PE X a ta) (hb : PE X (.BoolOp .Or (b :: rest) pos) tb) : PE X (.BoolOp .Or (a :: b :: rest) pos) (tOrV ta tb) := by
  intro pins s σ H Q I h
  refine BoolOp_or (thn (ha pins s σ H _ I h) fun v s1 ⟨x, H1, I1, r1, q1⟩ => ?_)
  obtain ⟨c, rfl, q1⟩ := q1
  cases r1
  refine wpAny_truthy_bool ?_
  cases c with
  | false => exact hb pins s1 σ H1 Q I1 q1
  | true => exact ⟨.bl true, H1, I1, rfl, q1⟩
end
end L2
namespace L2
open PySem PySem.Spec PyProof.Rows
def SqL (K : PySem.W.Frag) (H : Hp) (a : Addr) (xs : List V) : Prop :=
  Rd H a (.lst xs) ∨
    ∃ (o : Obj) (its : Array Value) (n : Nat), K.lookup a = some o ∧ o.cls = .type "list" ∧ o.dict = none ∧ o.data = .seq its n ∧ its.size ≤ sizeLine ∧ Vals xs its.toList
def SqT (K : PySem.W.Frag) (H : Hp) (a : Addr) (xs : List V) : Prop :=
  Rd H a (.tup xs) ∨
    ∃ (o : Obj) (its : Array Value) (n : Nat), K.lookup a = some o ∧ o.cls = .type "tuple" ∧ o.data = .seq its n ∧ its.size ≤ sizeLine ∧ Vals xs its.toList
def absV : Value → Option V
  | .none => some .non
  | .bool b => some (.bl b)
  | .int i _ => some (.int i)
  | .str x _ => some (.str x)
  | .bytes b _ => some (.byt b)
  | .float b _ => some (.flt b)
  | .ref a => some (.ref a)
  | .type n => some (.ty n)
  | _ => none
theorem RelV.abs {x : V} {u : Value} (r : RelV x u) : absV u = some x := by
  cases x with
  | non => cases r; rfl
  | bl _ => cases r; rfl
  | int _ => obtain ⟨t, rfl⟩ := r; rfl
  | str _ => obtain ⟨t, rfl⟩ := r; rfl
  | byt _ => obtain ⟨t, rfl⟩ := r; rfl
  | flt _ => obtain ⟨t, rfl⟩ := r; rfl
  | ref _ => cases r; rfl
  | ty _ => cases r; rfl
theorem RelV.inj {x y : V} {u : Value} (r : RelV x u) (q : RelV y u) : x = y := Option.some.inj (r.abs.symm.trans q.abs)
theorem Vals.inj : ∀ {xs ys : List V} {us : List Value}, Vals xs us → Vals ys us → xs = ys
  | _, _, _, .nil, .nil => rfl
  | _, _, _, .cons r t, .cons r' t' => by rw [r.inj r', Vals.inj t t']
section
variable {X : Cx} {pins : List (Addr × Obj)} {σ : St} {H : Hp} {s : Shared} {a : Addr} {xs ys : List V}
theorem SqL.of {K : PySem.W.Frag} (h : H a = some (.lst xs)) : SqL K H a xs := .inl (.inl h)
theorem SqT.of {K : PySem.W.Frag} (h : H a = some (.tup xs)) : SqT K H a xs := .inl (.inl h)
theorem Inv.list (I : Inv X pins σ H s) (h : SqL X.K H a xs) : ∃ its : List Value, Vals xs its ∧ PlainL s.heap a its.toArray ∧ xs.length ≤ sizeLine := by
  rcases h with h | ⟨o, its, n, hk, hc, hd, hs, hz, r⟩
  · obtain ⟨z, its, n, r, e⟩ := h.ok I.hok
    exact ⟨its, r, ⟨_, n, e, rfl, rfl, rfl⟩, z⟩
  · refine ⟨its.toList, r, ⟨o, n, I.kIn a o hk, hc, hd, by simpa using hs⟩, ?_⟩
    have e := r.length
    simp only [Array.length_toList] at e
    omega
theorem Inv.tuple (I : Inv X pins σ H s) (h : SqT X.K H a xs) : ∃ its : List Value, Vals xs its ∧ IsTup s.heap a its.toArray ∧ xs.length ≤ sizeLine := by
  rcases h with h | ⟨o, its, n, hk, hc, hs, hz, r⟩
  · obtain ⟨z, its, r, p⟩ := h.ok I.hok
    exact ⟨its, r, p, z⟩
  · refine ⟨its.toList, r, ⟨o, I.kIn a o hk, hc, n, by simpa using hs⟩, ?_⟩
    have e := r.length
    simp only [Array.length_toList] at e
    omega
theorem Inv.list_inj (I : Inv X pins σ H s) (h : SqL X.K H a xs) (h' : SqL X.K H a ys) : xs = ys := by
  obtain ⟨its, r, ⟨o, n, e, _, _, d⟩, _⟩ := I.list h
  obtain ⟨its', r', ⟨o', n', e', _, _, d'⟩, _⟩ := I.list h'
  rw [e] at e'; cases e'
  rw [d] at d'
  injection d' with d1 _
  have : its = its' := by simpa using congrArg Array.toList d1
  subst this
  exact r.inj r'
theorem Inv.tuple_inj (I : Inv X pins σ H s) (h : SqT X.K H a xs) (h' : SqT X.K H a ys) : xs = ys := by
  obtain ⟨its, r, ⟨o, e, _, n, d⟩, _⟩ := I.tuple h
  obtain ⟨its', r', ⟨o', e', _, n', d'⟩, _⟩ := I.tuple h'
  rw [e] at e'; cases e'
  rw [d] at d'
  injection d' with d1 _
  have : its = its' := by simpa using congrArg Array.toList d1
  subst this
  exact r.inj r'
end
abbrev Cx.wish (X : Cx) (E : Value → Shared → Prop) : Cx := { X with xe := E }
abbrev Cx.nox (X : Cx) : Cx := X.wish fun _ _ => False
theorem Cx.Ok.wish {X : Cx} (ok : X.Ok) (E : Value → Shared → Prop) : (X.wish E).Ok :=
  ⟨ok.mod, ok.kind, ok.glob, ok.blt, ok.above, ok.inj, ok.has, ok.cab, ok.hd, ok.frames, ok.stk, ok.exf, ok.bs, ok.bsz, ok.noex, ok.exfs, ok.funs, ok.frf⟩
theorem Cx.Ok.unwish {X : Cx} {E : Value → Shared → Prop} (ok : (X.wish E).Ok) : X.Ok :=
  ⟨ok.mod, ok.kind, ok.glob, ok.blt, ok.above, ok.inj, ok.has, ok.cab, ok.hd, ok.frames, ok.stk, ok.exf, ok.bs, ok.bsz, ok.noex, ok.exfs, ok.funs, ok.frf⟩
section
variable {X : Cx} {pins : List (Addr × Obj)} {σ : St} {H : Hp} {s : Shared} {E : Value → Shared → Prop}
theorem Inv.wish (I : Inv X pins σ H s) (E : Value → Shared → Prop) : Inv (X.wish E) pins σ H s := ⟨I.ok.wish E, I.os, I.bare, I.base, I.loc, I.cell, I.free, I.freeC, I.pin, I.hok, I.len⟩
theorem Inv.unwish (I : Inv (X.wish E) pins σ H s) : Inv X pins σ H s := ⟨I.ok.unwish, I.os, I.bare, I.base, I.loc, I.cell, I.free, I.freeC, I.pin, I.hok, I.len⟩
theorem SP.unwish {D : Ends} {f : Flow} {s' : Shared} (h : SP (X.wish E) pins D f s') : SP X pins D f s' := by
  cases f with
  | next => obtain ⟨σ', H', I, q⟩ := h; exact ⟨σ', H', I.unwish, q⟩
  | brk => obtain ⟨σ', H', I, q⟩ := h; exact ⟨σ', H', I.unwish, q⟩
  | cont => obtain ⟨σ', H', I, q⟩ := h; exact ⟨σ', H', I.unwish, q⟩
  | ret u => obtain ⟨v, σ', H', I, r, q⟩ := h; exact ⟨v, σ', H', I.unwish, r, q⟩
theorem PE.nox {e : Expr} {t : TE} (h : PE X.nox e t) : PE X e t := fun pins s σ H Q I hw =>
  wpAny_mono (h pins s σ H Q (I.wish _) hw) (fun _ _ ⟨v, H', I', r, q⟩ => ⟨v, H', I'.unwish, r, q⟩) fun _ _ z => False.elim z
theorem PT.nox {e : Expr} {t : TT} (h : PT X.nox e t) : PT X e t := fun pins s σ H Q I hw =>
  wpAny_mono (h pins s σ H Q (I.wish _) hw) (fun _ _ ⟨H', I', q⟩ => ⟨H', I'.unwish, q⟩) fun _ _ z => False.elim z
theorem PSs.nox {st : List Stmt} {t : TS} (h : PSs X.nox st t) : PSs X st t := fun pins s σ H D I hw =>
  wpAny_mono (h pins s σ H D (I.wish _) hw) (fun _ _ q => q.unwish) fun _ _ z => False.elim z
end
section
variable {X : Cx} {st : Stmt} {rest : List Stmt} {t u : TS} {e : Expr} {te : TE} {pos : Pos}
def tNext : TS := fun D σ H => D.nx σ H
def tSeq (t u : TS) : TS := fun D σ H => t { D with nx := u D } σ H
theorem pss_nil : PSs X [] tNext := fun _ _ σ H _ I h => wpAny_execs_nil ⟨σ, H, I, h⟩
theorem pss_cons (h1 : PS X st t) (h2 : PSs X rest u) : PSs X (st :: rest) (tSeq t u) := by
  intro pins s σ H D I h
  refine wpAny_execs_cons (thn (h1 pins s σ H { D with nx := u D } I h) fun f s1 q => ?_)
  cases f with
  | next =>
    obtain ⟨σ', H', I', q⟩ := q
    exact h2 pins s1 σ' H' D I' q
  | ret v => exact q
  | brk => exact q
  | cont => exact q
theorem pss_one (h1 : PS X st t) : PSs X [st] t := by
  intro pins s σ H D I h
  refine wpAny_execs_cons (thn (h1 pins s σ H D I h) fun f s1 q => ?_)
  cases f with
  | next => exact wpAny_execs_nil q
  | ret v => exact q
  | brk => exact q
  | cont => exact q
theorem Inv.quiet {pins : List (Addr × Obj)} {σ : St} {H : Hp} {s : Shared} (I : Inv X pins σ H s) : interactive X.env = false := by simp [interactive, I.ok.kind]
def tDrop (te : TE) : TS := fun D σ H => te σ H fun _ H1 => D.nx σ H1
theorem ps_expr (he : PE X e te) (hs : swapsWith e none pos.line X.env = pure false := by rfl) : PS X (.Expr e pos) (tDrop te) := by
  intro pins s σ H D I h
  exact wpAny_Expr_any (thn (he pins s σ H _ I h) fun v s1 ⟨x, H1, I1, r1, q1⟩ => ⟨σ, H1, I1, q1⟩) I.quiet hs
def tRet (te : TE) : TS := fun D σ H => te σ H D.rt
theorem ps_ret (he : PE X e te) : PS X (.Return (some e) pos) (tRet te) := by
  intro pins s σ H D I h
  exact wpAny_Return_some (thn (he pins s σ H _ I h) fun v s1 ⟨x, H1, I1, r1, q1⟩ => ⟨x, σ, H1, I1, r1, q1⟩)
def tIfS (c : TT) (t u : TS) : TS := fun D σ H => c σ H fun b H1 => if b = true then t D σ H1 else u D σ H1
theorem ps_if {c : Expr} {a b : List Stmt} {tc : TT} (hc : PT X c tc) (ha : PSs X a t) (hb : PSs X b u) : PS X (.If c a b pos) (tIfS tc t u) := by
  intro pins s σ H D I h
  refine wpAny_If (thn (hc pins s σ H _ I h) fun d s1 ⟨H1, I1, q1⟩ => ?_)
  cases d with
  | true => exact ha pins s1 σ H1 D I1 q1
  | false => exact hb pins s1 σ H1 D I1 q1
def tNever : TS := fun _ _ _ => False
theorem pss_never {sts : List Stmt} : PSs X sts tNever := fun _ _ _ _ _ _ h => h.elim
end
abbrev TG := V → St → Hp → (St → Hp → Prop) → Prop
abbrev TGs := List V → St → Hp → (St → Hp → Prop) → Prop
def PG (X : Cx) (target : Expr) (t : TG) : Prop :=
  ∀ (pins : List (Addr × Obj)) (s : Shared) (σ : St) (H : Hp) (v : V) (u : Value) (Q : St → Hp → Prop), Inv X pins σ H s → RelV v u → t v σ H Q →
    wpAny (model X.prog X.w) X.A (assign target X.env u) (fun _ s' => ∃ σ' H', Inv X pins σ' H' s' ∧ Q σ' H') X.xe s
def PGs (X : Cx) (ts : List Expr) (t : TGs) : Prop :=
  ∀ (pins : List (Addr × Obj)) (s : Shared) (σ : St) (H : Hp) (vs : List V) (us : List Value) (Q : St → Hp → Prop), Inv X pins σ H s → Vals vs us → t vs σ H Q →
    wpAny (model X.prog X.w) X.A (assignInOrder ((assignEach ts X.env).map (·.2)) us) (fun _ s' => ∃ σ' H', Inv X pins σ' H' s' ∧ Q σ' H') X.xe s
abbrev TSet := V → V → V → Hp → (Hp → Prop) → Prop
def PSet (X : Cx) (t : TSet) : Prop :=
  ∀ (pins : List (Addr × Obj)) (s : Shared) (σ : St) (H : Hp) (o i v : V) (ov iv u : Value) (Q : Hp → Prop), Inv X pins σ H s → RelV o ov → RelV i iv → RelV v u → t o i v H Q →
    wpAny (model X.prog X.w) X.A (setItem ov iv u) (fun _ s' => ∃ H', Inv X pins σ H' s' ∧ Q H') X.xe s
section
variable {X : Cx} {pos : Pos}
def gName (i : Nat) : TG := fun v σ H Q => Q (σ.set i (some v)) H
theorem pg_name {i : Nat} {x : Str} (hN : X.N.Nodup) (hi : X.N[i]? = some x) (hx : Loc X.env.scope x) (hf : X.fn x = true ∨ X.env.scope.names.lookup x = some .local := by first | exact .inl rfl | exact .inr rfl | assumption) : PG X (.Name x pos) (gName i) := by
  intro pins s σ H v u Q I r h
  exact wpAny_assign_Name (store_ok I hN hi hx r (fun s' I' => ⟨_, H, I', h⟩) hf)
def gNil : TGs := fun vs σ H Q => vs = [] ∧ Q σ H
def gCons (t : TG) (u : TGs) : TGs := fun vs σ H Q => ∃ v r, vs = v :: r ∧ t v σ H fun σ' H' => u r σ' H' Q
theorem pgs_nil : PGs X [] gNil := by
  intro pins s σ H vs us Q I r h
  obtain ⟨e, h⟩ := h
  subst e
  cases r
  exact assignInOrder_nil ⟨σ, H, I, h⟩
theorem pgs_cons {e : Expr} {es : List Expr} {t : TG} {u : TGs} (h1 : PG X e t) (h2 : PGs X es u)
    (hs : (assignEach (e :: es) X.env).map (·.2) = assign e X.env :: (assignEach es X.env).map (·.2) := by rfl) : PGs X (e :: es) (gCons t u) := by
  intro pins s σ H vs us Q I r h
  obtain ⟨v, vr, e1, h⟩ := h
  subst e1
  cases r with
  | cons r rr =>
    rw [hs]
    refine assignInOrder_cons (thn (h1 pins s σ H _ _ _ I r h) fun _ s1 ⟨σ1, H1, I1, q1⟩ => ?_)
    exact h2 pins s1 σ1 H1 _ _ Q I1 rr q1
def gTup (K : PySem.W.Frag) (n : Nat) (t : TGs) : TG := fun v σ H Q => ∃ a xs, v = .ref a ∧ SqT K H a xs ∧ xs.length = n ∧ t xs σ H Q
theorem pg_tup {es : List Expr} {k : Nat} {t : TGs} {n : Nat} (hc : X.calm = true) (h : PGs X es t)
    (hn : (assignEach es X.env).length = n := by rfl) (hst : (assignEach es X.env).findIdx? (·.1) = none := by rfl) : PG X (.Tuple es k pos) (gTup X.K n t) := by
  intro pins s σ H v u Q I r hw
  obtain ⟨a, xs, e1, hq, hl, hw⟩ := hw
  subst e1
  cases r
  obtain ⟨its, rv, ht, hz⟩ := I.tuple hq
  refine assign_Tuple_tuple (I.ok.hd hc) ht (by simp [hn, ← hl, rv.length]) hst fun h' hx => ?_
  have I1 : Inv X pins σ H { s with heap := h' } := I.kept (t' := s.toks) fun b o e => hx b o (Nat.ne_of_lt (Heap.lt_size e)) e
  exact h pins _ σ H xs _ Q I1 (by simpa using rv) hw
def gSub (to ti : TE) (t : TSet) : TG := fun v σ H Q => to σ H fun o H1 => ti σ H1 fun i H2 => t o i v H2 fun H3 => Q σ H3
theorem pg_sub {o i : Expr} {to ti : TE} {t : TSet} (ho : PE X o to) (hi : PE X i ti) (hs : PSet X t)
    (ha : ∀ v, assign (.Subscript o i pos) X.env v = (do
      let ov ← holding [v] (eval o X.env)
      let iv ← holding [v, ov] (eval i X.env)
      standAt pos
      holding [v, ov, iv] (setItem ov iv v)
      release [v, ov, iv] []) := by intro _; rfl) : PG X (.Subscript o i pos) (gSub to ti t) := by
  intro pins s σ H v u Q I r h
  rw [ha]
  refine wpAny_bind (wpAny_holding (thn (ho pins s σ H _ I h) fun ov s1 ⟨x, H1, I1, r1, q1⟩ => ?_))
  refine wpAny_bind (wpAny_holding (thn (hi pins s1 σ H1 _ I1 q1) fun iv s2 ⟨y, H2, I2, r2, q2⟩ => ?_))
  refine wpAny_bind (wpAny_standAt (wpAny_bind (wpAny_holding (thn (hs pins s2 σ H2 x y v ov iv u _ I2 r1 r2 r q2) fun _ s3 ⟨H3, I3, q3⟩ => ?_))))
  exact wpAny_release ⟨σ, H3, I3, q3⟩
def tAsg (te : TE) (g : TG) : TS := fun D σ H => te σ H fun x H1 => g x σ H1 D.nx
theorem ps_asg {tg e : Expr} {te : TE} {g : TG} (he : PE X e te) (hg : PG X tg g) (hs : swapsWithSole [tg] e pos.line X.env = pure false := by rfl) (hw : swappedStores [tg] e X.env = pure none := by rfl)
    (h1 : (assignEach [tg] X.env).map (·.2) = [assign tg X.env] := by rfl) : PS X (.Assign [tg] e pos) (tAsg te g) := by
  intro pins s σ H D I h
  refine wpAny_Assign_stores (thn (he pins s σ H _ I h) fun v s1 ⟨x, H1, I1, r1, q1⟩ => ?_) hs hw
  rw [h1]
  exact thn (hg pins s1 σ H1 x v _ I1 r1 q1) fun _ s2 q => q
theorem ps_set {i : Nat} {x : Str} {e : Expr} {te : TE} {pos' : Pos} (hN : X.N.Nodup) (hi : X.N[i]? = some x) (hx : Loc X.env.scope x) (he : PE X e te) (hs : swapsWith e (some (.Name x pos')) pos.line X.env = pure false := by rfl) (hf : X.fn x = true ∨ X.env.scope.names.lookup x = some .local := by first | exact .inl rfl | exact .inr rfl | assumption) :
    PS X (.Assign [.Name x pos'] e pos) (tAsg te (gName i)) := by
  intro pins s σ H D I h
  refine wpAny_Assign_Name (thn (he pins s σ H _ I h) fun v s1 ⟨y, H1, I1, r1, q1⟩ => ?_) hs
  exact store_ok I1 hN hi hx r1 (fun s2 I2 => ⟨_, H1, I2, q1⟩) hf
end
section
variable {X : Cx} {pos : Pos}
end
structure It where
  go : Nat → Hp → Prop
  yld : Nat → Hp → V → Hp → Prop
  stop : Nat → Hp → Prop
def FpOk (X : Cx) (pins : List (Addr × Obj)) (H : Hp) (b : Addr) : Prop :=
  H b = none ∧ b ≠ X.env.locals ∧ b ∉ X.fs ∧ (b ∈ X.ex ∨ X.s₀.heap.objs.size ≤ b) ∧ (∀ x c, X.env.cells.lookup x = some c → c ≠ b) ∧ ∀ p ∈ X.pn ++ pins, p.1 ≠ b
theorem Inv.fpOk {X : Cx} {pins : List (Addr × Obj)} {σ : St} {H H' : Hp} {s : Shared} {b : Addr} (I : Inv X pins σ H s) (hb : s.heap.objs.size ≤ b) (hn : H' b = none) : FpOk X pins H' b := by
  refine ⟨hn, Nat.ne_of_gt (Nat.lt_of_lt_of_le I.lt hb), I.nofs hb, .inr (Nat.le_trans I.sz hb), fun x c e z => ?_, fun p hp z => ?_⟩
  · obtain ⟨v, q⟩ := I.cell x c e
    exact absurd (Nat.lt_of_lt_of_le q.lt (by rw [z]; exact hb)) (Nat.lt_irrefl _)
  · exact absurd (Nat.lt_of_lt_of_le (Heap.lt_size (I.pin p hp).1) (by rw [z]; exact hb)) (Nat.lt_irrefl _)
structure Turn (P : Program) (w : World) (K : PySem.W.Frag) (tg : Expr) (J : It) (fp : List Addr) (it : Addr) (tn : Nat → Heap → Prop) : Prop where
  mem : it ∈ fp
  obj : ∀ i h, tn i h → ∀ b ∈ fp, ∃ o, h.get? b = some o ∧ ∀ v, o.data ≠ .cell v
  keep : ∀ i h h', tn i h → (∀ b ∈ fp, ∀ o, h.get? b = some o → h'.get? b = some o) → tn i h'
  item : ∀ (X : Cx), X.prog = P → X.w = w → X.K = K → X.calm = true → ∀ (i : Nat) (pins : List (Addr × Obj)) (s : Shared) (σ : St) (H : Hp) (E : Value → Shared → Prop), Inv X pins σ H s → (∀ b ∈ fp, FpOk X pins H b) → tn i s.heap → J.go i H →
    wpAny (model P w) X.A (pyNext (.ref it)) (fun r s1 => ∃ u, r = some u ∧
      wpAny (model P w) X.A (letOwnedTupleGo tg (.ref it) u) (fun _ s2 => ∃ x H', Inv X pins σ H' s2 ∧ RelV x u ∧ J.yld i H x H' ∧ tn (i + 1) s2.heap ∧ ∀ b ∈ fp, H' b = none) E s1) E s
  done : ∀ (X : Cx), X.prog = P → X.w = w → X.K = K → X.calm = true → ∀ (i : Nat) (pins : List (Addr × Obj)) (s : Shared) (σ : St) (H : Hp) (E : Value → Shared → Prop), Inv X pins σ H s → (∀ b ∈ fp, FpOk X pins H b) → tn i s.heap → J.stop i H →
    wpAny (model P w) X.A (pyNext (.ref it)) (fun r s1 => r = none ∧ Inv X pins σ H s1) E s
  self : ∀ (A : Around) (i : Nat) (s : Shared) (Q : Value → Shared → Prop) (E : Value → Shared → Prop), tn i s.heap → Q (.ref it) s → wpAny (model P w) A (pyIter (.ref it)) Q E s
abbrev TI := St → Hp → (It → Hp → Prop) → Prop
def PIE (X : Cx) (pins : List (Addr × Obj)) (σ : St) (tg : Expr) (R : It → Hp → Prop) (itv : Value) (s2 : Shared) : Prop :=
  ∃ (it : Addr) (fp : List Addr) (tn : Nat → Heap → Prop) (J : It) (H' : Hp), itv = .ref it ∧ Inv X pins σ H' s2 ∧ Turn X.prog X.w X.K tg J fp it tn ∧ tn 0 s2.heap ∧ (∀ b ∈ fp, FpOk X pins H' b) ∧ R J H'
def PI (X : Cx) (tg iter : Expr) (wi : TI) : Prop :=
  ∀ (pins : List (Addr × Obj)) (s : Shared) (σ : St) (H : Hp) (R : It → Hp → Prop), Inv X pins σ H s → wi σ H R →
    wpAny (model X.prog X.w) X.A (eval iter X.env) (fun v s1 => wpAny (model X.prog X.w) X.A (pyIter v) (PIE X pins σ tg R) X.xe s1) X.xe s
theorem go_of {M : Model} {A : Around} {E : Value → Shared → Prop} {s : Shared} {tg : Expr} {it : Addr} {u : Value} {o : Obj} {n : String} {vs : Array Value} {Q : Unit → Shared → Prop} (ho : s.heap.get? it = some o) (hc : o.cls = .type n) (hd : o.data = .fields vs)
    (hn : ["enumerate", "zip", "dict_itemiterator", "dict_reverseitemiterator", "odict_iterator", "itertools.zip_longest", "itertools.pairwise"].contains n = false) (hQ : Q () s) : wpAny M A (letOwnedTupleGo tg (.ref it) u) Q E s := by
  unfold letOwnedTupleGo
  cases tg <;> first
    | exact wpAny_pure hQ
    | (cases u <;> first
        | exact wpAny_pure hQ
        | (refine wpAny_bind (wpAny_load ho ?_)
           rw [hc, hd]
           show wpAny M A (if (["enumerate", "zip", "dict_itemiterator", "dict_reverseitemiterator", "odict_iterator", "itertools.zip_longest", "itertools.pairwise"].contains n && vs[0]? == some (rawInt _)) = true then _ else _) Q E s
           rw [if_neg (by intro h; rw [hn, Bool.false_and] at h; cases h)]
           exact wpAny_pure hQ))
def Itl (K : PySem.W.Frag) (a : Addr) : It :=
  ⟨fun i H => ∃ xs x, SqL K H a xs ∧ xs[i]? = some x, fun i H x H' => H' = H ∧ ∀ xs, SqL K H a xs → xs[i]? = some x, fun i H => ∃ xs, SqL K H a xs ∧ xs.length ≤ i⟩
def Itt (K : PySem.W.Frag) (a : Addr) : It :=
  ⟨fun i H => ∃ xs x, SqT K H a xs ∧ xs[i]? = some x, fun i H x H' => H' = H ∧ ∀ xs, SqT K H a xs → xs[i]? = some x, fun i H => ∃ xs, SqT K H a xs ∧ xs.length ≤ i⟩
def Itr (lo : Int) (n : Nat) : It := ⟨fun i _ => i < n, fun i H x H' => H' = H ∧ x = .int (lo + i), fun i _ => n ≤ i⟩
theorem turn_list {P : Program} {w : World} {K : PySem.W.Frag} {tg : Expr} (a it : Addr) : Turn P w K tg (Itl K a) [it] it (fun i h => h.IsListIter it a i) where
  mem := by simp
  obj := fun i h st b hb => by
    have e : b = it := by simpa using hb
    subst e
    obtain ⟨o, e, c, d⟩ := st
    exact ⟨o, e, fun v z => by rw [d] at z; cases z⟩
  keep := fun i h h' st k => st.at fun o e => k it (by simp) o e
  item := by
    intro X hP hw hK hc i pins s σ H E I hf st hg
    subst hP hw hK
    obtain ⟨xs, x, hq, hx⟩ := hg
    obtain ⟨its, rv, p, hz⟩ := I.list hq
    obtain ⟨u, hu, ru⟩ := rv.get hx
    obtain ⟨f0, f1, f2, f3, f4, f5⟩ := hf it (by simp)
    refine wpAny_pyNext_list_item st p.isList (x := u) (by simpa using hu) fun h' st' sb => ?_
    have I1 : Inv X pins σ H { s with heap := h' } := I.turned (t' := s.toks) (fun b o hb e => (sb.2 b hb).trans e) f0 f1 f3 f4 f5
    obtain ⟨o, e, c, d⟩ := id st'
    exact ⟨u, rfl, go_of (s := { s with heap := h' }) e c d (by decide) ⟨x, H, I1, ru, ⟨rfl, fun ys hy => by rw [I.list_inj hy hq]; exact hx⟩, st', fun b hb => (hf b hb).1⟩⟩
  done := by
    intro X hP hw hK hc i pins s σ H E I hf st hg
    subst hP hw hK
    obtain ⟨xs, hq, hx⟩ := hg
    obtain ⟨its, rv, p, hz⟩ := I.list hq
    obtain ⟨f0, f1, f2, f3, f4, f5⟩ := hf it (by simp)
    have hl := rv.length
    exact wpAny_pyNext_list_end (I.ok.hd hc) st p.isList (by simp; omega) fun h' eb => ⟨rfl, I.turned (t' := s.toks) (fun b o hb e => eb b o hb e) f0 f1 f3 f4 f5⟩
  self := fun _ _ _ _ _ st h => wpAny_pyIter_listiter st h
theorem turn_tuple {P : Program} {w : World} {K : PySem.W.Frag} {tg : Expr} (a it : Addr) : Turn P w K tg (Itt K a) [it] it (fun i h => h.IsTupleIter it a i) where
  mem := by simp
  obj := fun i h st b hb => by
    have e : b = it := by simpa using hb
    subst e
    obtain ⟨o, e, c, d⟩ := st
    exact ⟨o, e, fun v z => by rw [d] at z; cases z⟩
  keep := fun i h h' st k => st.at fun o e => k it (by simp) o e
  item := by
    intro X hP hw hK hc i pins s σ H E I hf st hg
    subst hP hw hK
    obtain ⟨xs, x, hq, hx⟩ := hg
    obtain ⟨its, rv, p, hz⟩ := I.tuple hq
    obtain ⟨u, hu, ru⟩ := rv.get hx
    obtain ⟨f0, f1, f2, f3, f4, f5⟩ := hf it (by simp)
    refine wpAny_pyNext_tuple_item st (show s.heap.IsTuple a its.toArray from p) (x := u) (by simpa using hu) fun h' st' sb => ?_
    have I1 : Inv X pins σ H { s with heap := h' } := I.turned (t' := s.toks) (fun b o hb e => (sb.2 b hb).trans e) f0 f1 f3 f4 f5
    obtain ⟨o, e, c, d⟩ := id st'
    exact ⟨u, rfl, go_of (s := { s with heap := h' }) e c d (by decide) ⟨x, H, I1, ru, ⟨rfl, fun ys hy => by rw [I.tuple_inj hy hq]; exact hx⟩, st', fun b hb => (hf b hb).1⟩⟩
  done := by
    intro X hP hw hK hc i pins s σ H E I hf st hg
    subst hP hw hK
    obtain ⟨xs, hq, hx⟩ := hg
    obtain ⟨its, rv, p, hz⟩ := I.tuple hq
    obtain ⟨f0, f1, f2, f3, f4, f5⟩ := hf it (by simp)
    have hl := rv.length
    exact wpAny_pyNext_tuple_end (I.ok.hd hc) st (show s.heap.IsTuple a its.toArray from p) (by simp; omega) fun h' eb => ⟨rfl, I.turned (t' := s.toks) (fun b o hb e => eb b o hb e) f0 f1 f3 f4 f5⟩
  self := fun _ _ _ _ _ st h => wpAny_pyIter_tupleiter st h
theorem turn_range {P : Program} {w : World} {K : PySem.W.Frag} {tg : Expr} (it : Addr) (lo : Int) (n : Nat) : Turn P w K tg (Itr lo n) [it] it (fun i h => IsRangeIter h it (lo + (i : Nat) * 1) ((n : Int) - (i : Nat)) 1) where
  mem := by simp
  obj := fun i h st b hb => by
    have e : b = it := by simpa using hb
    subst e
    exact ⟨_, st, fun v z => by
      have z' : Data.fields _ = Data.cell v := z
      cases z'⟩
  keep := fun i h h' st k => k it (by simp) _ st
  item := by
    intro X hP hw hK hc i pins s σ H E I hf st hg
    subst hP hw hK
    obtain ⟨f0, f1, f2, f3, f4, f5⟩ := hf it (by simp)
    have W := Walks.range (prog := X.prog) (w := X.w) (I.ok.hd hc) it lo 1 n
    refine W.item i s _ _ hg st fun v h' tk hv st' kk => ?_
    obtain ⟨t, rfl⟩ := hv
    have I1 : Inv X pins σ H { s with heap := h', toks := tk } := I.turned (fun b o hb e => kk b o (by simpa using hb) e) f0 f1 f3 f4 f5
    refine ⟨_, rfl, go_of (s := { s with heap := h', toks := tk }) (n := "range_iterator") st' rfl rfl (by decide) ⟨.int (lo + i), H, I1, ⟨t, ?_⟩, ⟨rfl, rfl⟩, st', fun b hb => (hf b hb).1⟩⟩
    rw [Int.mul_one]
  done := by
    intro X hP hw hK hc i pins s σ H E I hf st hg
    subst hP hw hK
    obtain ⟨f0, f1, f2, f3, f4, f5⟩ := hf it (by simp)
    exact wpAny_pyNext_range_end (I.ok.hd hc) st (by have : n ≤ i := hg; omega) fun h' eb => ⟨rfl, I.turned (t' := s.toks) (fun b o hb e => eb b o hb e) f0 f1 f3 f4 f5⟩
  self := fun _ _ _ _ _ st h => wpAny_pyIter_rangeiter st h
end L2
namespace L2
open PySem PySem.Spec PyProof.Rows
section
variable {X : Cx} {tg : Expr}
def iList (K : PySem.W.Frag) (tl : TE) : TI := fun σ H R => tl σ H fun x H1 => ∃ a, x = .ref a ∧ (∃ xs, SqL K H1 a xs) ∧ R (Itl K a) H1
def iTup (K : PySem.W.Frag) (tl : TE) : TI := fun σ H R => tl σ H fun x H1 => ∃ a, x = .ref a ∧ (∃ xs, SqT K H1 a xs) ∧ R (Itt K a) H1
theorem pi_list {l : Expr} {tl : TE} (hl : PE X l tl) : PI X tg l (iList X.K tl) := by
  intro pins s σ H R I h
  refine thn (hl pins s σ H _ I h) fun v s1 ⟨x, H1, I1, r1, q1⟩ => ?_
  obtain ⟨a, e, ⟨xs, hq⟩, q⟩ := q1
  subst e
  cases r1
  obtain ⟨its, rv, p, hz⟩ := I1.list hq
  refine wpAny_pyIter_list p.isList ?_
  refine ⟨s1.heap.objs.size, [s1.heap.objs.size], _, _, H1, rfl, I1.kept (t' := s1.toks) fun b o e => Heap.get?_push_of_some _ e, turn_list a _, ⟨_, Heap.get?_push_size _ rfl, rfl, rfl⟩, fun b hb => ?_, q⟩
  have e : b = s1.heap.objs.size := by simpa using hb
  subst e
  exact I1.fpOk (Nat.le_refl _) (I1.hok.fresh (Nat.le_refl _))
theorem pi_tup {l : Expr} {tl : TE} (hl : PE X l tl) : PI X tg l (iTup X.K tl) := by
  intro pins s σ H R I h
  refine thn (hl pins s σ H _ I h) fun v s1 ⟨x, H1, I1, r1, q1⟩ => ?_
  obtain ⟨a, e, ⟨xs, hq⟩, q⟩ := q1
  subst e
  cases r1
  obtain ⟨its, rv, p, hz⟩ := I1.tuple hq
  refine wpAny_pyIter_tuple (show s1.heap.IsTuple a its.toArray from p) ?_
  refine ⟨s1.heap.objs.size, [s1.heap.objs.size], _, _, H1, rfl, I1.kept (t' := s1.toks) fun b o e => Heap.get?_push_of_some _ e, turn_tuple a _, ⟨_, Heap.get?_push_size _ rfl, rfl, rfl⟩, fun b hb => ?_, q⟩
  have e : b = s1.heap.objs.size := by simpa using hb
  subst e
  exact I1.fpOk (Nat.le_refl _) (I1.hok.fresh (Nat.le_refl _))
theorem range_it {pins : List (Addr × Obj)} {σ : St} {H : Hp} {s : Shared} {R : It → Hp → Prop} {E : Value → Shared → Prop} {lo hi : Int} {t u v : Tok} {tk : Nat} (I : Inv X pins σ H s) (h1 : -(2 ^ 62) ≤ lo) (h2 : lo < 2 ^ 62) (h3 : -(2 ^ 62) ≤ hi) (h4 : hi < 2 ^ 62)
    (q : R (Itr lo (hi - lo).toNat) H) : wpAny (model X.prog X.w) X.A (pyIter (.ref s.heap.objs.size)) (PIE X pins σ tg R) E { s with heap := s.heap.push { cls := .type "range", data := .fields #[.int lo t, .int hi u, .int 1 v] }, toks := tk } := by
  refine wpAny_pyIter_range (IsRange.new ..) (small_one h1 h2 h3 h4) ?_
  have I1 : Inv X pins σ H { s with heap := s.heap.push { cls := .type "range", data := .fields #[.int lo t, .int hi u, .int 1 v] }, toks := tk } := I.kept fun b o e => Heap.get?_push_of_some _ e
  refine ⟨(s.heap.push { cls := .type "range", data := .fields #[.int lo t, .int hi u, .int 1 v] }).objs.size, [(s.heap.push { cls := .type "range", data := .fields #[.int lo t, .int hi u, .int 1 v] }).objs.size], _, _, H, rfl,
    I1.kept (t' := tk) fun b o e => Heap.get?_push_of_some _ e, turn_range _ lo (hi - lo).toNat, ?_, fun b hb => ?_, q⟩
  · have e1 : lo + ((0 : Nat) : Int) * 1 = lo := by simp
    have e2 : (((hi - lo).toNat : Nat) : Int) - ((0 : Nat) : Int) = Builtin.Range.rangeSize lo hi 1 := by rw [rangeSize_one]; split <;> omega
    show IsRangeIter _ _ (lo + ((0 : Nat) : Int) * 1) ((((hi - lo).toNat : Nat) : Int) - ((0 : Nat) : Int)) 1
    rw [e1, e2]
    exact Heap.get?_push_size _ rfl
  · have e : b = (s.heap.push { cls := .type "range", data := .fields #[.int lo t, .int hi u, .int 1 v] }).objs.size := by simpa using hb
    subst e
    exact I1.fpOk (Nat.le_refl _) (I1.hok.fresh (Nat.le_refl _))
def iRng1 (ta : TA) : TI := fun σ H R => ta σ H fun vs H1 => ∃ j : Int, vs = [.int j] ∧ -(2 ^ 62) ≤ j ∧ j < 2 ^ 62 ∧ R (Itr 0 j.toNat) H1
def iRng2 (ta : TA) : TI := fun σ H R => ta σ H fun vs H1 => ∃ i j : Int, vs = [.int i, .int j] ∧ (-(2 ^ 62) ≤ i ∧ i < 2 ^ 62 ∧ -(2 ^ 62) ≤ j ∧ j < 2 ^ 62) ∧ R (Itr i (j - i).toNat) H1
theorem pi_range1 {a : Expr} {ta : TA} {p pos : Pos} (hg : Gl X "range") (hm : X.mg "range" = none) (ha : PA X [a] ta) (hs : starEach [a] X.env = [(false, eval a X.env)] := by rfl) : PI X tg (.Call (.Name "range" p) [a] [] pos) (iRng1 ta) := by
  intro pins s σ H R I h
  refine Call_ (ld_blt I hg hm boot_range (PyProof.Rows.callWith_type1 (thn (ha pos pins s σ H _ I h) fun us s1 ⟨vs, H1, I1, r1, q1⟩ => ?_) hs rfl))
  obtain ⟨j, e, q1, q2, q⟩ := q1
  subst e
  cases r1 with
  | cons r rr =>
    cases rr
    obtain ⟨t, rfl⟩ := r
    exact call_range_1 (range_it I1 (by omega) (by omega) q1 q2 (by simpa using q))
theorem pi_range2 {a b : Expr} {ta : TA} {p pos : Pos} (hg : Gl X "range") (hm : X.mg "range" = none) (ha : PA X [a, b] ta) (hs : starEach [a, b] X.env = [(false, eval a X.env), (false, eval b X.env)] := by rfl) (hs2 : starEach [b] X.env = [(false, eval b X.env)] := by rfl) :
    PI X tg (.Call (.Name "range" p) [a, b] [] pos) (iRng2 ta) := by
  intro pins s σ H R I h
  refine Call_ (ld_blt I hg hm boot_range (PyProof.Rows.callWith_type1 (thn (ha pos pins s σ H _ I h) fun us s1 ⟨vs, H1, I1, r1, q1⟩ => ?_) (by rw [hs, hs2]) (by rw [hs2]; rfl)))
  obtain ⟨i, j, e, ⟨q1, q2, q3, q4⟩, q⟩ := q1
  subst e
  cases r1 with
  | cons r rr =>
    cases rr with
    | cons r' rr =>
      cases rr
      obtain ⟨t, rfl⟩ := r
      obtain ⟨t', rfl⟩ := r'
      exact call_range_2 (range_it I1 q1 q2 q3 q4 q)
def tFor (wi : TI) (g : TG) (tb : TS) : TS := fun D σ H => wi σ H fun J H1 => ∃ W : Nat → Nat → St → Hp → Prop, (∃ m, W 0 m σ H1) ∧ ∀ i m σ H, W i m σ H →
  (J.stop i H ∧ D.nx σ H) ∨ (J.go i H ∧ ∃ N : St → Hp → Prop, (∀ σ' H', N σ' H' → ∃ m', m' < m ∧ W (i + 1) m' σ' H') ∧ ∀ x H', J.yld i H x H' → g x σ H' fun σ2 H2 => tb { D with nx := N, ct := N, bk := D.nx } σ2 H2)
def pinsAt (fp : List Addr) (h : Heap) : List (Addr × Obj) := fp.filterMap fun b => (h.get? b).map fun o => (b, o)
theorem mem_pinsAt {fp : List Addr} {h : Heap} {b : Addr} {o : Obj} (hb : b ∈ fp) (e : h.get? b = some o) : (b, o) ∈ pinsAt fp h := List.mem_filterMap.mpr ⟨b, hb, by rw [e]; rfl⟩
theorem of_pinsAt {fp : List Addr} {h : Heap} {p : Addr × Obj} (hp : p ∈ pinsAt fp h) : p.1 ∈ fp ∧ h.get? p.1 = some p.2 := by
  obtain ⟨b, hb, e⟩ := List.mem_filterMap.mp hp
  cases q : h.get? b with
  | none => rw [q] at e; cases e
  | some o =>
    rw [q] at e
    have e' : (b, o) = p := Option.some.inj e
    subst e'
    exact ⟨hb, q⟩
theorem Inv.pinned {pins : List (Addr × Obj)} {σ : St} {H : Hp} {s : Shared} {fp : List Addr} (I : Inv X pins σ H s) (hf : ∀ b ∈ fp, FpOk X pins H b) (ho : ∀ b ∈ fp, ∃ o, s.heap.get? b = some o ∧ ∀ v, o.data ≠ .cell v) : Inv X (pins ++ pinsAt fp s.heap) σ H s :=
  I.pins_of fun p hp => (List.mem_append.mp hp).elim (fun z => I.pin p (List.mem_append_right _ z)) fun z => by
    obtain ⟨hb, e⟩ := of_pinsAt z
    obtain ⟨f0, f1, f2, _⟩ := hf p.1 hb
    obtain ⟨o, e', d⟩ := ho p.1 hb
    rw [e] at e'; cases e'
    exact ⟨e, f0, f1, f2, d⟩
theorem Inv.unpinned {pins pl : List (Addr × Obj)} {σ : St} {H : Hp} {s : Shared} (I : Inv X (pins ++ pl) σ H s) : Inv X pins σ H s := I.pins_of fun p hp => I.pin p (List.mem_append_right _ (List.mem_append_left _ hp))
theorem ps_for {iter : Expr} {body : List Stmt} {wi : TI} {g : TG} {tb : TS} {pos : Pos} (hp : PassesOwn (model X.prog X.w) X.A X.env X.xe) (hc : X.calm = true) (hi : PI X tg iter wi) (hg : PG X tg g) (hb : PSs X body tb)
    (hs : ∀ x, foldedSetIterable iter X.env x = pure x := by intro _; rfl) : PS X (.For tg iter body [] pos) (tFor wi g tb) := by
  intro pins s σ H D I h
  refine wpAny_For (thn (hi pins s σ H _ I h) fun v s1 h1 => thn h1 fun itv s2 h2 => ?_) hs
  obtain ⟨it, fp, tn, J, H2, e, I2, T, st2, f2, W, ⟨m0, w0⟩, turn⟩ := h2
  subst e
  have stat : ∀ {H' : Hp}, (∀ b ∈ fp, H' b = none) → ∀ b ∈ fp, FpOk X pins H' b := fun hn b hb => ⟨hn b hb, (f2 b hb).2⟩
  refine codeAny_forLoop_any (fun n s' => ∃ i σ' H', Inv X pins σ' H' s' ∧ tn i s'.heap ∧ (∀ b ∈ fp, H' b = none) ∧ W i n σ' H') ?_ m0 ⟨0, σ, H2, I2, st2, fun b hb => (f2 b hb).1, w0⟩
  rintro n s3 ⟨i, σ3, H3, I3, st3, fr3, w3⟩
  rcases turn i n σ3 H3 w3 with ⟨stop, qn⟩ | ⟨go, N, hN, step⟩
  · refine wpAny_passesOwn hp (thn (T.done X rfl rfl rfl hc i pins s3 σ3 H3 X.xe I3 (stat fr3) st3 stop) fun r s4 ⟨hr, I4⟩ => ?_)
    subst hr
    exact wpAny_execs_nil ⟨σ3, H3, I4, qn⟩
  · refine wpAny_passesOwn hp (thn (T.item X rfl rfl rfl hc i pins s3 σ3 H3 X.xe I3 (stat fr3) st3 go) fun r s4 ⟨u, hr, h4⟩ => ?_)
    subst hr
    refine wpAny_passesOwn hp (thn h4 fun _ s5 ⟨x, H5, I5, r5, y5, st5, fr5⟩ => ?_)
    have I5' := I5.pinned (stat fr5) (T.obj _ _ st5)
    refine wpAny_passesOwn hp (thn (hg _ s5 σ3 H5 x u _ I5' r5 (step x H5 y5)) fun _ s6 ⟨σ6, H6, I6, q6⟩ => ?_)
    refine wpAny_passesOwn hp (thn (hb _ s6 σ6 H6 _ I6 q6) fun f s7 q7 => ?_)
    have again : ∀ {σ7 : St} {H7 : Hp}, Inv X (pins ++ pinsAt fp s5.heap) σ7 H7 s7 → N σ7 H7 → ∃ m, m < n ∧ ∃ i σ' H', Inv X pins σ' H' s7 ∧ tn i s7.heap ∧ (∀ b ∈ fp, H' b = none) ∧ W i m σ' H' := fun {σ7 H7} I7 n7 => by
      obtain ⟨m', hm, w7⟩ := hN σ7 H7 n7
      refine ⟨m', hm, i + 1, σ7, H7, I7.unpinned, T.keep _ _ _ st5 fun b hb o e => (I7.pin (b, o) (List.mem_append_right _ (List.mem_append_right _ (mem_pinsAt hb e)))).1, fun b hb => ?_, w7⟩
      obtain ⟨o, e, d⟩ := T.obj _ _ st5 b hb
      exact (I7.pin (b, o) (List.mem_append_right _ (List.mem_append_right _ (mem_pinsAt hb e)))).2.1
    cases f with
    | next => obtain ⟨σ7, H7, I7, n7⟩ := q7; exact again I7 n7
    | cont => obtain ⟨σ7, H7, I7, n7⟩ := q7; exact again I7 n7
    | brk => obtain ⟨σ7, H7, I7, q7⟩ := q7; exact ⟨σ7, H7, I7.unpinned, q7⟩
    | ret v => obtain ⟨x7, σ7, H7, I7, r7, q7⟩ := q7; exact ⟨x7, σ7, H7, I7.unpinned, r7, q7⟩
end
theorem for_list {K : PySem.W.Frag} {a : Addr} {xs : List V} {g : TG} {tb : TS} {D : Ends} {σ : St} {H : Hp} (Pv : Nat → St → Hp → Prop) (h0 : Pv 0 σ H) (hl : ∀ i σ H, i ≤ xs.length → Pv i σ H → SqL K H a xs)
    (hs : ∀ i x σ H, xs[i]? = some x → Pv i σ H → g x σ H fun σ2 H2 => tb { D with nx := Pv (i + 1), ct := Pv (i + 1), bk := D.nx } σ2 H2) (hd : ∀ σ H, Pv xs.length σ H → D.nx σ H) :
    ∃ W : Nat → Nat → St → Hp → Prop, (∃ m, W 0 m σ H) ∧ ∀ i m σ H, W i m σ H →
      ((Itl K a).stop i H ∧ D.nx σ H) ∨ ((Itl K a).go i H ∧ ∃ N : St → Hp → Prop, (∀ σ' H', N σ' H' → ∃ m', m' < m ∧ W (i + 1) m' σ' H') ∧ ∀ x H', (Itl K a).yld i H x H' → g x σ H' fun σ2 H2 => tb { D with nx := N, ct := N, bk := D.nx } σ2 H2) := by
  refine ⟨fun i m σ H => m = xs.length - i ∧ i ≤ xs.length ∧ Pv i σ H, ⟨xs.length, by simp, Nat.zero_le _, h0⟩, ?_⟩
  rintro i m σ H ⟨rfl, hi, p⟩
  have q := hl i σ H hi p
  by_cases hlt : i < xs.length
  · refine .inr ⟨⟨xs, xs[i], q, by simp [hlt]⟩, Pv (i + 1), fun σ' H' p' => ⟨xs.length - (i + 1), by omega, rfl, hlt, p'⟩, fun x H' y => ?_⟩
    obtain ⟨e, y⟩ := y
    subst e
    exact hs i x σ _ (y xs q) p
  · have e : i = xs.length := by omega
    subst e
    exact .inl ⟨⟨xs, q, Nat.le_refl _⟩, hd σ H p⟩
theorem for_range {lo : Int} {n : Nat} {g : TG} {tb : TS} {D : Ends} {σ : St} {H : Hp} (Pv : Nat → St → Hp → Prop) (h0 : Pv 0 σ H)
    (hs : ∀ i σ H, i < n → Pv i σ H → g (.int (lo + i)) σ H fun σ2 H2 => tb { D with nx := Pv (i + 1), ct := Pv (i + 1), bk := D.nx } σ2 H2) (hd : ∀ σ H, Pv n σ H → D.nx σ H) :
    ∃ W : Nat → Nat → St → Hp → Prop, (∃ m, W 0 m σ H) ∧ ∀ i m σ H, W i m σ H →
      ((Itr lo n).stop i H ∧ D.nx σ H) ∨ ((Itr lo n).go i H ∧ ∃ N : St → Hp → Prop, (∀ σ' H', N σ' H' → ∃ m', m' < m ∧ W (i + 1) m' σ' H') ∧ ∀ x H', (Itr lo n).yld i H x H' → g x σ H' fun σ2 H2 => tb { D with nx := N, ct := N, bk := D.nx } σ2 H2) := by
  refine ⟨fun i m σ H => m = n - i ∧ i ≤ n ∧ Pv i σ H, ⟨n, by simp, Nat.zero_le _, h0⟩, ?_⟩
  rintro i m σ H ⟨rfl, hi, p⟩
  by_cases hlt : i < n
  · refine .inr ⟨hlt, Pv (i + 1), fun σ' H' p' => ⟨n - (i + 1), by omega, rfl, hlt, p'⟩, fun x H' y => ?_⟩
    obtain ⟨e, y⟩ := y
    subst e y
    exact hs i σ _ hlt p
  · have e : i = n := by omega
    subst e
    exact .inl ⟨Nat.le_refl _, hd σ H p⟩
end L2
namespace L2
open PySem PySem.Spec PyProof.Rows
abbrev R2 := V → V → Hp → VK → Prop
def OpR (X : Cx) (f : Value → Value → Sem Value) (r : R2) : Prop :=
  ∀ (pins : List (Addr × Obj)) (s : Shared) (σ : St) (H : Hp) (x y : V) (v u : Value) (Q : VK), Inv X pins σ H s → RelV x v → RelV y u → r x y H Q →
    wpAny (model X.prog X.w) X.A (f v u) (EP X pins σ Q) X.xe s
def UnR (X : Cx) (f : Value → Sem Value) (r : V → Hp → VK → Prop) : Prop :=
  ∀ (pins : List (Addr × Obj)) (s : Shared) (σ : St) (H : Hp) (x : V) (v : Value) (Q : VK), Inv X pins σ H s → RelV x v → r x H Q →
    wpAny (model X.prog X.w) X.A (f v) (EP X pins σ Q) X.xe s
def CallR (X : Cx) (f : Value) (r : List V → Hp → VK → Prop) : Prop :=
  ∀ (pins : List (Addr × Obj)) (s : Shared) (σ : St) (H : Hp) (xs : List V) (us : List Value) (Q : VK), Inv X pins σ H s → Vals xs us → r xs H Q →
    wpAny (model X.prog X.w) X.A (call f us) (EP X pins σ Q) X.xe s
def tOp (r : R2) (ta tb : TE) : TE := fun σ H Q => ta σ H fun x H1 => tb σ H1 fun y H2 => r x y H2 Q
def tUn (r : V → Hp → VK → Prop) (ta : TE) : TE := fun σ H Q => ta σ H fun x H1 => r x H1 Q
def rI (C : Int → Int → Prop) (g : Int → Int → V) : R2 := fun x y H Q => ∃ i j, x = .int i ∧ y = .int j ∧ C i j ∧ Q (g i j) H
def rI0 (g : Int → Int → V) : R2 := fun x y H Q => ∃ i j, x = .int i ∧ y = .int j ∧ Q (g i j) H
def rU (g : Int → V) : V → Hp → VK → Prop := fun x H Q => ∃ i, x = .int i ∧ Q (g i) H
section
variable {X : Cx} {a b c : Expr} {ta tb tc : TE} {pos : Pos}
theorem binT (ha : PE X a ta) (hb : PE X b tb) {pins : List (Addr × Obj)} {s : Shared} {σ : St} {H : Hp} {R : V → V → Hp → Prop} (I : Inv X pins σ H s)
    (h : ta σ H fun x H1 => tb σ H1 fun y H2 => R x y H2) {Q : Value → Shared → Prop} {f : Value → Value → Sem Value}
    (hf : ∀ v u s2 x y H2, Inv X pins σ H2 s2 → RelV x v → RelV y u → R x y H2 → wpAny (model X.prog X.w) X.A (f v u) Q X.xe s2) :
    wpAny (model X.prog X.w) X.A (eval a X.env) (fun v s₁ => wpAny (model X.prog X.w) X.A (eval b X.env) (fun u s₂ => wpAny (model X.prog X.w) X.A (f v u) Q X.xe s₂) X.xe s₁) X.xe s := by
  refine thn (ha pins s σ H _ I h) fun v s1 ⟨x, H1, I1, r1, q1⟩ => ?_
  refine thn (hb pins s1 σ H1 _ I1 q1) fun u s2 ⟨y, H2, I2, r2, q2⟩ => ?_
  exact hf v u s2 x y H2 I2 r1 r2 q2
theorem pe_op {op : Operator} {r : R2} (ho : OpR X (binaryOp op) r) (ha : PE X a ta) (hb : PE X b tb) : PE X (.BinOp a op b pos) (tOp r ta tb) := by
  intro pins s σ H Q I h
  exact wpAny_BinOp (binT ha hb I h fun v u s2 x y H2 I2 rx ry q => ho pins s2 σ H2 x y v u Q I2 rx ry q)
theorem pe_un {op : UnaryOp} {r : V → Hp → VK → Prop} (ho : UnR X (unaryOp op) r) (ha : PE X a ta) : PE X (.UnaryOp op a pos) (tUn r ta) := by
  intro pins s σ H Q I h
  exact UnaryOp_ (thn (ha pins s σ H _ I h) fun v s1 ⟨x, H1, I1, r1, q1⟩ => ho pins s1 σ H1 x v Q I1 r1 q1)
theorem opI {f : Value → Value → Sem Value} {C : Int → Int → Prop} {g : Int → Int → Int}
    (rule : ∀ (i j : Int) (t u : Tok) (s : Shared) (Q : Value → Shared → Prop) (E : Value → Shared → Prop), C i j → Q (.int (g i j) s.toks) { s with toks := s.toks + 1 } → wpAny (model X.prog X.w) X.A (f (.int i t) (.int j u)) Q E s) :
    OpR X f (rI C fun i j => .int (g i j)) := by
  intro pins s σ H x y v u Q I rx ry h
  obtain ⟨i, j, rfl, rfl, hc, q⟩ := h
  obtain ⟨t, rfl⟩ := rx
  obtain ⟨t', rfl⟩ := ry
  exact rule i j t t' s _ _ hc ⟨.int (g i j), H, I.tok _, ⟨_, rfl⟩, q⟩
theorem opI0 {f : Value → Value → Sem Value} {g : Int → Int → Int}
    (rule : ∀ (i j : Int) (t u : Tok) (s : Shared) (Q : Value → Shared → Prop) (E : Value → Shared → Prop), Q (.int (g i j) s.toks) { s with toks := s.toks + 1 } → wpAny (model X.prog X.w) X.A (f (.int i t) (.int j u)) Q E s) :
    OpR X f (rI0 fun i j => .int (g i j)) := by
  intro pins s σ H x y v u Q I rx ry h
  obtain ⟨i, j, rfl, rfl, q⟩ := h
  obtain ⟨t, rfl⟩ := rx
  obtain ⟨t', rfl⟩ := ry
  exact rule i j t t' s _ _ ⟨.int (g i j), H, I.tok _, ⟨_, rfl⟩, q⟩
theorem opB0 {f : Value → Value → Sem Value} {g : Int → Int → Bool}
    (rule : ∀ (i j : Int) (t u : Tok) (s : Shared) (Q : Value → Shared → Prop) (E : Value → Shared → Prop), Q (.bool (g i j)) s → wpAny (model X.prog X.w) X.A (f (.int i t) (.int j u)) Q E s) :
    OpR X f (rI0 fun i j => .bl (g i j)) := by
  intro pins s σ H x y v u Q I rx ry h
  obtain ⟨i, j, rfl, rfl, q⟩ := h
  obtain ⟨t, rfl⟩ := rx
  obtain ⟨t', rfl⟩ := ry
  exact rule i j t t' s _ _ ⟨.bl (g i j), H, I, rfl, q⟩
def CDiv (i j : Int) : Prop := 0 < j ∧ j < 1073741824
def CPow (i j : Int) : Prop := 0 ≤ j ∧ j ≤ 1000000 ∧ i.natAbs < 2 ^ 64
def CMul (i j : Int) : Prop := (-(2 ^ 64) < i ∧ i < 2 ^ 64) ∨ (-(2 ^ 64) < j ∧ j < 2 ^ 64)
theorem CMul.ok {i j : Int} (h : CMul i j) : IntMulOk i j := by
  rcases h with ⟨h1, h2⟩ | ⟨h1, h2⟩
  · exact .of_left (intBits_le_64 h1 h2)
  · exact .of_right (intBits_le_64 h1 h2)
theorem op_add : OpR X (binaryOp .Add) (rI0 fun i j => .int (i + j)) := opI0 fun _ _ _ _ _ _ _ q => add_int q
theorem op_sub : OpR X (binaryOp .Sub) (rI0 fun i j => .int (i - j)) := opI0 fun _ _ _ _ _ _ _ q => sub_int q
theorem op_mul : OpR X (binaryOp .Mult) (rI CMul fun i j => .int (i * j)) := opI fun _ _ _ _ _ _ _ hc q => mul_int q hc.ok
theorem op_fdiv : OpR X (binaryOp .FloorDiv) (rI CDiv fun i j => .int (i / j)) := opI fun i j _ _ _ _ _ hc q => by
  have h1 : (0 : Int) < j := hc.1
  have h2 : j < 1073741824 := hc.2
  exact floordiv_int (by omega) (by rw [Int.fdiv_eq_ediv_of_nonneg i (by omega)]; exact q) (.inl (PyProof.noPylong_small (by omega)))
theorem op_mod : OpR X (binaryOp .Mod) (rI (fun _ j => 0 < j) fun i j => .int (i % j)) := opI fun i j _ _ _ _ _ hc q => by
  have h1 : (0 : Int) < j := hc
  exact mod_int' (by omega) (by rw [Int.fmod_eq_emod_of_nonneg i (by omega)]; exact q)
theorem op_pow : OpR X (binaryOp .Pow) (rI CPow fun i j => .int (i ^ j.toNat)) := opI fun _ _ _ _ _ _ _ hc q => pow_int_small hc.1 hc.2.1 hc.2.2 q
theorem unI {f : Value → Sem Value} {g : Int → Int}
    (rule : ∀ (i : Int) (t : Tok) (s : Shared) (Q : Value → Shared → Prop) (E : Value → Shared → Prop), Q (.int (g i) s.toks) { s with toks := s.toks + 1 } → wpAny (model X.prog X.w) X.A (f (.int i t)) Q E s) :
    UnR X f (rU fun i => .int (g i)) := by
  intro pins s σ H x v Q I rx h
  obtain ⟨i, rfl, q⟩ := h
  obtain ⟨t, rfl⟩ := rx
  exact rule i t s _ _ ⟨.int (g i), H, I.tok _, ⟨_, rfl⟩, q⟩
theorem un_neg : UnR X (unaryOp .USub) (rU fun i => .int (-i)) := unI fun _ _ _ _ _ q => neg_int q
end
def scal : V → V → Bool
  | .non, .non => true | .non, .int _ => true | .int _, .non => true | .non, .bl _ => true | .bl _, .non => true | .non, .str _ => true | .str _, .non => true
  | .int _, .int _ => true | .bl _, .bl _ => true | .str _, .str _ => true | .byt _, .byt _ => true
  | .int _, .str _ => true | .str _, .int _ => true | .bl _, .str _ => true | .str _, .bl _ => true
  | _, _ => false
def rEq : R2 := fun x y H Q => scal x y = true ∧ Q (.bl (decide (x = y))) H
def rNe : R2 := fun x y H Q => scal x y = true ∧ Q (.bl (!decide (x = y))) H
theorem dec_int {i j : Int} : decide (V.int i = V.int j) = (i == j) := by
  rw [Bool.eq_iff_iff]
  simp
theorem dec_bl {i j : Bool} : decide (V.bl i = V.bl j) = (i == j) := by
  rw [Bool.eq_iff_iff]
  simp
theorem dec_str {i j : Str} : decide (V.str i = V.str j) = (i == j) := by
  rw [Bool.eq_iff_iff]
  simp
theorem dec_byt {i j : Array UInt8} : decide (V.byt i = V.byt j) = (i.toList == j.toList) := by
  rw [Bool.eq_iff_iff]
  cases i
  cases j
  simp
section
variable {X : Cx} {a b c : Expr} {ta tb tc : TE} {pos : Pos}
theorem fin_bl {pins : List (Addr × Obj)} {σ : St} {H : Hp} {s : Shared} {Q : VK} {k k' : Bool} (I : Inv X pins σ H s) (q : Q (.bl k) H) (e : k = k') : EP X pins σ Q (.bool k') s := by
  subst e
  exact ⟨.bl k, H, I, rfl, q⟩
theorem op_eq : OpR X (compareOp .Eq) rEq := by
  intro pins s σ H x y v u Q I rx ry h
  obtain ⟨hs, q⟩ := h
  cases x with
  | non =>
    cases rx
    cases y with
    | non => cases ry; exact PySem.EqNone.eq_none_none (fin_bl I q (by simp))
    | bl j => cases ry; exact PySem.EqNone.eq_none_bool (fin_bl I q (by simp))
    | int j => obtain ⟨t', rfl⟩ := ry; exact PySem.EqNone.eq_none_int (fin_bl I q (by simp))
    | str j => obtain ⟨t', rfl⟩ := ry; exact PySem.EqNone.eq_none_str (fin_bl I q (by simp))
    | _ => exact absurd (show false = true from hs) Bool.false_ne_true
  | bl i =>
    cases rx
    cases y with
    | non => cases ry; exact PySem.EqNone.eq_bool_none (fin_bl I q (by simp))
    | bl j => cases ry; exact eq_bool (fin_bl I q dec_bl)
    | str j => obtain ⟨t', rfl⟩ := ry; exact PySem.EqMixed.eq_bool_str (fin_bl I q (by simp))
    | _ => exact absurd (show false = true from hs) Bool.false_ne_true
  | int i =>
    obtain ⟨t, rfl⟩ := rx
    cases y with
    | non => cases ry; exact PySem.EqNone.eq_int_none (fin_bl I q (by simp))
    | int j => obtain ⟨t', rfl⟩ := ry; exact eq_int (fin_bl I q dec_int)
    | str j => obtain ⟨t', rfl⟩ := ry; exact PySem.EqMixed.eq_int_str (fin_bl I q (by simp))
    | _ => exact absurd (show false = true from hs) Bool.false_ne_true
  | str i =>
    obtain ⟨t, rfl⟩ := rx
    cases y with
    | non => cases ry; exact PySem.EqNone.eq_str_none (fin_bl I q (by simp))
    | bl j => cases ry; exact PySem.EqMixed.eq_str_bool (fin_bl I q (by simp))
    | int j => obtain ⟨t', rfl⟩ := ry; exact PySem.EqMixed.eq_str_int (fin_bl I q (by simp))
    | str j => obtain ⟨t', rfl⟩ := ry; exact eq_str (fin_bl I q dec_str)
    | _ => exact absurd (show false = true from hs) Bool.false_ne_true
  | byt i =>
    obtain ⟨t, rfl⟩ := rx
    cases y with
    | byt j => obtain ⟨t', rfl⟩ := ry; exact PySem.W.eq_bytes (fin_bl I q dec_byt)
    | _ => exact absurd (show false = true from hs) Bool.false_ne_true
  | _ => cases y <;> exact absurd (show false = true from hs) Bool.false_ne_true
theorem op_ne : OpR X (compareOp .NotEq) rNe := by
  intro pins s σ H x y v u Q I rx ry h
  obtain ⟨hs, q⟩ := h
  cases x with
  | non =>
    cases rx
    cases y with
    | non => cases ry; exact PySem.EqNone.ne_none_none (fin_bl I q (by simp))
    | bl j => cases ry; exact PySem.EqNone.ne_none_bool (fin_bl I q (by simp))
    | int j => obtain ⟨t', rfl⟩ := ry; exact PySem.EqNone.ne_none_int (fin_bl I q (by simp))
    | str j => obtain ⟨t', rfl⟩ := ry; exact PySem.EqNone.ne_none_str (fin_bl I q (by simp))
    | _ => exact absurd (show false = true from hs) Bool.false_ne_true
  | bl i =>
    cases rx
    cases y with
    | non => cases ry; exact PySem.EqNone.ne_bool_none (fin_bl I q (by simp))
    | bl j => cases ry; exact ne_bool (fin_bl I q (congrArg not dec_bl))
    | str j => obtain ⟨t', rfl⟩ := ry; exact PySem.EqMixed.ne_bool_str (fin_bl I q (by simp))
    | _ => exact absurd (show false = true from hs) Bool.false_ne_true
  | int i =>
    obtain ⟨t, rfl⟩ := rx
    cases y with
    | non => cases ry; exact PySem.EqNone.ne_int_none (fin_bl I q (by simp))
    | int j => obtain ⟨t', rfl⟩ := ry; exact ne_int (fin_bl I q (congrArg not dec_int))
    | str j => obtain ⟨t', rfl⟩ := ry; exact PySem.EqMixed.ne_int_str (fin_bl I q (by simp))
    | _ => exact absurd (show false = true from hs) Bool.false_ne_true
  | str i =>
    obtain ⟨t, rfl⟩ := rx
    cases y with
    | non => cases ry; exact PySem.EqNone.ne_str_none (fin_bl I q (by simp))
    | bl j => cases ry; exact PySem.EqMixed.ne_str_bool (fin_bl I q (by simp))
    | int j => obtain ⟨t', rfl⟩ := ry; exact PySem.EqMixed.ne_str_int (fin_bl I q (by simp))
    | str j => obtain ⟨t', rfl⟩ := ry; exact ne_str (fin_bl I q (congrArg not dec_str))
    | _ => exact absurd (show false = true from hs) Bool.false_ne_true
  | byt i =>
    obtain ⟨t, rfl⟩ := rx
    cases y with
    | byt j => obtain ⟨t', rfl⟩ := ry; exact PySem.W.ne_bytes (fin_bl I q (congrArg not dec_byt))
    | _ => exact absurd (show false = true from hs) Bool.false_ne_true
  | _ => cases y <;> exact absurd (show false = true from hs) Bool.false_ne_true
theorem op_lt : OpR X (compareOp .Lt) (rI0 fun i j => .bl (decide (i < j))) := opB0 fun _ _ _ _ _ _ _ q => lt_int q
theorem op_le : OpR X (compareOp .LtE) (rI0 fun i j => .bl (decide (i ≤ j))) := opB0 fun _ _ _ _ _ _ _ q => le_int q
theorem op_gt : OpR X (compareOp .Gt) (rI0 fun i j => .bl (decide (j < i))) := opB0 fun _ _ _ _ _ _ _ q => gt_int q
theorem op_ge : OpR X (compareOp .GtE) (rI0 fun i j => .bl (decide (j ≤ i))) := opB0 fun _ _ _ _ _ _ _ q => ge_int q
theorem op_notN : OpR X (compareOp .IsNot) (fun x y H Q => y = .non ∧ Q (.bl (!decide (x = .non))) H) := by
  intro pins s σ H x y v u Q I rx ry h
  obtain ⟨rfl, q⟩ := h
  cases ry
  refine isnot_none_gen (fin_bl I q ?_)
  cases x <;> first
    | (cases rx; rfl)
    | (obtain ⟨t, rfl⟩ := rx; rfl)
theorem OpR.or {f : Value → Value → Sem Value} {r r' : R2} (h : OpR X f r) (h' : OpR X f r') : OpR X f (fun x y H Q => r x y H Q ∨ r' x y H Q) := by
  intro pins s σ H x y v u Q I rx ry q
  rcases q with q | q
  · exact h pins s σ H x y v u Q I rx ry q
  · exact h' pins s σ H x y v u Q I rx ry q
theorem nomark (b : Expr) {op : CmpOp} (h : op ≠ .In := by decide) (h2 : op ≠ .NotIn := by decide) : behindInMarks op b = false := by
  have e1 : (op == CmpOp.In) = false := by cases op <;> first | rfl | exact absurd rfl h
  have e2 : (op == CmpOp.NotIn) = false := by cases op <;> first | rfl | exact absurd rfl h2
  cases b <;> simp [behindInMarks, e1, e2]
theorem pe_cmpR {op : CmpOp} {r : R2} (ho : OpR X (compareOp op) r) (ha : PE X a ta) (hb : PE X b tb) (hm : behindInMarks op b = false) : PE X (.Compare a [op] [b] pos) (tOp r ta tb) := by
  intro pins s σ H Q I h
  exact wpAny_Compare1 (binT ha hb I h fun v u s2 x y H2 I2 rx ry q => ho pins s2 σ H2 x y v u Q I2 rx ry q) hm
def tTest (t : TE) : TT := fun σ H Q => t σ H fun x H' => ∃ k, x = .bl k ∧ Q k H'
theorem pt_cmpR {op : CmpOp} {r : R2} (ho : OpR X (compareOp op) r) (ha : PE X a ta) (hb : PE X b tb) (hm : behindInMarks op b = false) : PT X (.Compare a [op] [b] pos) (tTest (tOp r ta tb)) := by
  intro pins s σ H Q I h
  refine wpAny_isTrue_Compare1 (thn (ha pins s σ H _ I h) fun v s1 ⟨x, H1, I1, r1, q1⟩ => thn (hb pins s1 σ H1 _ I1 q1) fun u s2 ⟨y, H2, I2, r2, q2⟩ =>
    thn (ho pins s2 σ H2 x y v u _ I2 r1 r2 q2) fun c s3 ⟨z, H3, I3, r3, k, e, q3⟩ => ?_) hm
  subst e
  cases r3
  exact wpAny_truthy_bool ⟨H3, I3, q3⟩
theorem line63 : (sizeLine : Nat) < 2 ^ 63 := by rw [sizeLine_eq]; decide
theorem vals1 {x : V} {us : List Value} (r : Vals [x] us) : ∃ u, us = [u] ∧ RelV x u := by
  cases r with
  | cons r1 r2 => cases r2; exact ⟨_, rfl, r1⟩
theorem vals2 {x y : V} {us : List Value} (r : Vals [x, y] us) : ∃ u w', us = [u, w'] ∧ RelV x u ∧ RelV y w' := by
  cases r with
  | cons r1 r2 =>
    cases r2 with
    | cons r3 r4 => cases r4; exact ⟨_, _, rfl, r1, r3⟩
theorem call_min2 (hc : X.calm = true) : CallR X (.builtin "min") (fun xs H Q => ∃ i j, xs = [.int i, .int j] ∧ Q (.int (if j < i then j else i)) H) := by
  intro pins s σ H xs us Q I r h
  obtain ⟨i, j, rfl, q⟩ := h
  obtain ⟨u, w', rfl, ⟨t, rfl⟩, ⟨t', rfl⟩⟩ := vals2 r
  refine min_two_ints (I.ok.hd hc) fun h' tk k => ⟨_, H, I.kept k, ?_, q⟩
  by_cases hj : j < i
  · rw [if_pos hj, if_pos hj]; exact ⟨_, rfl⟩
  · rw [if_neg hj, if_neg hj]; exact ⟨_, rfl⟩
theorem call_int1 : CallR X (.type "int") (fun xs H Q => (∃ i, xs = [.int i] ∧ Q (.int i) H) ∨ ∃ k, xs = [.bl k] ∧ Q (.int (if k then 1 else 0)) H) := by
  intro pins s σ H xs us Q I r h
  rcases h with ⟨i, rfl, q⟩ | ⟨k, rfl, q⟩
  · obtain ⟨u, rfl, t, rfl⟩ := vals1 r
    exact call_int_int ⟨.int i, H, I, ⟨_, rfl⟩, q⟩
  · obtain ⟨u, rfl, r1⟩ := vals1 r
    cases r1
    exact call_int_bool ⟨.int (if k then 1 else 0), H, I.tok _, ⟨_, rfl⟩, q⟩
theorem call_str_int : CallR X (.type "str") (fun xs H Q => ∃ i, xs = [.int i] ∧ i.natAbs.log2 < 1920 ∧ Q (.str (toString i)) H) := by
  intro pins s σ H xs us Q I r h
  obtain ⟨i, rfl, hz, q⟩ := h
  obtain ⟨u, rfl, t, rfl⟩ := vals1 r
  exact PySem.P.str_of_int hz ⟨.str _, H, I.tok _, ⟨_, rfl⟩, q⟩
end
end L2
namespace L2
open PySem PySem.Spec PyProof.Rows
structure ObjM (h : Heap) (x dx C : Addr) (mA : Str → Option Value) : Prop where
  obj : h.get? x = some (PySem.W.instObj C dx)
  ns : h.Ns1 dx mA
  ne : dx ≠ x
theorem lookIn_ns {h : Heap} {dx : Addr} {mA : Str → Option Value} (n : h.Ns1 dx mA) : ∃ od, h.get? dx = some od ∧ ∀ name, PySem.W.lookIn name od = some (mA name) := by
  obtain ⟨o, es, ep, ho, hd, hk, _, hm⟩ := n
  refine ⟨o, ho, fun name => ?_⟩
  have e := hm name
  unfold nsFind findBy at e
  rw [← Array.find?_toList] at e
  unfold PySem.W.lookIn
  rw [hd]
  dsimp only
  split
  · rename_i y q
    rw [q] at e
    exact congrArg some e
  · rename_i q
    rw [q] at e
    have a : es.toList.any (·.refKey) = false := by
      rw [List.any_eq_false]
      intro y hy
      obtain ⟨z, t, hkey⟩ := hk y (Array.mem_toList_iff.mp hy)
      simp [DictEntry.refKey, hkey]
    have a' : ¬ es.toList.any (·.refKey) = true := by rw [a]; exact Bool.false_ne_true
    rw [if_neg a']
    exact congrArg some e
theorem ObjM.look {h : Heap} {x dx C : Addr} {mA : Str → Option Value} (I : ObjM h x dx C mA) : ∃ od, PySem.W.InstAt h x (PySem.W.instObj C dx) C (some od) ∧ ∀ name, PySem.W.lookIn name od = some (mA name) :=
  let ⟨od, ho, hl⟩ := lookIn_ns I.ns
  ⟨od, ⟨I.obj, rfl, rfl, ho⟩, hl⟩
section
variable {prog : Program} {w : World} {A : Around} {E : Value → Shared → Prop} {s : Shared} {K : PySem.W.Frag} {x dx C f : Addr} {mA : Str → Option Value} {name : Str} {v : Value}
end
theorem RelO.some_of {v : V} {o : Option Value} (r : RelO (some v) o) : ∃ u, o = some u ∧ RelV v u := by
  cases o with
  | none => exact (show False from r).elim
  | some u => exact ⟨u, rfl, r⟩
section
variable {P : Program} {w : World} {H H' : Hp} {h h' : Heap} {a C dx : Addr} {fs fs' : List (Str × V)}
end
structure Cls (K : PySem.W.Frag) (C : Addr) : Prop where
  pg : PySem.W.plainGet K C Str.empty = true
  hd : PySem.W.hasDictIn K C = true
  po : PySem.W.plainOver K C = true
  sa : PySem.W.findIn K (.ref C) "__setattr__" = some (some (.builtin "object.__setattr__"))
theorem Cls.get {K : PySem.W.Frag} {C : Addr} (c : Cls K C) (f : Str) : PySem.W.plainGet K C f = true := c.pg
structure Con (K : PySem.W.Frag) (C : Addr) (f : Str) (v : V) (u : Value) : Prop where
  at_ : PySem.W.findIn K (.ref C) f = some (some u)
  rel : RelV v u
  get : PySem.W.specialIn K u "__get__" = some none
  cp : PySem.W.copiedNames.contains f = false
structure Meth (K : PySem.W.Frag) (C : Addr) (m : Str) (f : Addr) : Prop where
  at_ : PySem.W.findIn K (.ref C) m = some (some (.ref f))
  fn : PySem.W.isFn K (.ref f) = true
  kp : PySem.W.keepIn K (.ref f) = true
section
variable {X : Cx} {pins : List (Addr × Obj)} {σ : St} {H : Hp} {s : Shared} {a C dx : Addr} {fs : List (Str × V)} {f : Str} {v : V} {A : Around} {E : Value → Shared → Prop}
end
section
variable {X : Cx} {o e value : Expr} {f : Str} {pos pos' tpos : Pos} {ta tv : TE}
end
section
variable {X : Cx} {pins : List (Addr × Obj)} {σ : St} {H : Hp} {s : Shared} {A : Around} {E : Value → Shared → Prop} {Q : Value → Shared → Prop} {c : Value} {b : Bool}
inductive TyOf (K : PySem.W.Frag) (H : Hp) : V → Value → Prop where
  | non : TyOf K H .non (.type "NoneType")
  | bl (x : Bool) : TyOf K H (.bl x) (.type "bool")
  | int (i : Int) : TyOf K H (.int i) (.type "int")
  | str (x : Str) : TyOf K H (.str x) (.type "str")
  | flt (x : UInt64) : TyOf K H (.flt x) (.type "float")
  | lst {a : Addr} {xs : List V} (e : H a = some (.lst xs)) : TyOf K H (.ref a) (.type "list")
  | frz {a : Addr} {o : Obj} {xs : List V} (e : H a = some (.frz o (.lst xs))) : TyOf K H (.ref a) (.type "list")
  | tup {a : Addr} {xs : List V} (e : H a = some (.tup xs)) : TyOf K H (.ref a) (.type "tuple")
  | dK {a : Addr} {kvs : List (Key × V)} (e : H a = some (.dK kvs)) : TyOf K H (.ref a) (.type "dict")
  | dT {a : Addr} {kvs : List (List Key × V)} (e : H a = some (.dT kvs)) : TyOf K H (.ref a) (.type "dict")
  | ins {a C dx : Addr} {fs : List (Str × V)} (e : H a = some (.ins C dx fs)) (cl : Cls K C) (ha : PySem.W.findIn K (.ref C) "__class__" = some (some (.builtin "object.__class__")))
      (hn : PySem.W.specialIn K (.builtin "object.__class__") "__get__" = some (some (.builtin "getset_descriptor.__get__"))) (htk : PySem.W.takesIn K (.builtin "object.__class__") = some true)
      (hm : PySem.W.mroIn K C (.type "object") = some true) : TyOf K H (.ref a) (.ref C)
end
end L2
namespace L2
open PySem PySem.Spec PyProof.Rows
structure Room (k : Nat) (A : Around) : Prop where
  hd : A.handled = none
  dp : A.depth + 3 * k + 5 < recursionLimit
  un : A.units + 16 * k + 200 < cLine
theorem Room.mono {j k : Nat} {A : Around} (r : Room k A) (h : j ≤ k) : Room j A := ⟨r.hd, by have := r.dp; omega, by have := r.un; omega⟩
theorem Room.deeper {k : Nat} {A : Around} (r : Room (k + 1) A) (env : Env) : Room k (A.deeper env) :=
  ⟨r.hd, by have := r.dp; show A.depth + 1 + 3 * k + 5 < _; omega, by have := r.un; show A.units + 3 + 16 * k + 200 < _; omega⟩
theorem Room.in1 {k : Nat} {A : Around} (r : Room (k + 1) A) : Room k A.in1 :=
  ⟨r.hd, by have := r.dp; show A.depth + 3 * k + 5 < _; omega, by have := r.un; show A.units + 1 + 16 * k + 200 < _; omega⟩
theorem Room.depth {k : Nat} {A : Around} (r : Room k A) : A.depth < recursionLimit := by have := r.dp; omega
theorem Room.units {k : Nat} {A : Around} (r : Room k A) : A.units + 64 < cLine := by have := r.un; omega
def tNil : TA := fun _ H Q => Q [] H
def tCons (ta : TE) (tr : TA) : TA := fun σ H Q => ta σ H fun x H1 => tr σ H1 fun xs H2 => Q (x :: xs) H2
section
variable {X : Cx} {e : Expr} {es : List Expr} {te : TE} {t : TA} {pos : Pos}
theorem pa_nil : PA X [] tNil := fun _ _ _ _ H Q I h => Calls.spliced_nil ⟨[], H, I, .nil, h⟩
theorem pa_cons (ha : PE X e te) (hr : PA X es t) (hs : starEach (e :: es) X.env = (false, eval e X.env) :: starEach es X.env := by rfl) : PA X (e :: es) (tCons te t) := by
  intro pos pins s σ H Q I h
  rw [hs]
  show wpAny _ _ (spliced ((false, eval e X.env) :: backTo pos (starEach es X.env))) _ _ s
  refine Calls.spliced_cons (thn (ha pins s σ H _ I h) fun u s1 ⟨x, H1, I1, r1, q1⟩ => ?_)
  exact thn (hr pos pins s1 σ H1 _ I1 q1) fun us s2 ⟨xs, H2, I2, r2, q2⟩ => ⟨x :: xs, H2, I2, .cons r1 r2, q2⟩
def tTup (t : TA) : TE := fun σ H Q => t σ H fun xs H1 => xs.length ≤ sizeLine ∧ ∀ p, H1 p = none → Q (.ref p) (upd H1 p (.tup xs))
def tLst (t : TA) : TE := fun σ H Q => t σ H fun xs H1 => xs.length ≤ sizeLine ∧ ∀ p, H1 p = none → Q (.ref p) (upd H1 p (.lst xs))
theorem pe_tup {x1} (h : PA X es t) : PE X (.Tuple es x1 pos) (tTup t) := by
  intro pins s σ H Q I hq
  refine wpAny_Tuple_spliced (thn (h pos pins s σ H _ I hq) fun us s1 ⟨xs, H1, I1, r, z, q⟩ => ⟨by rw [← r.length]; exact z, ?_⟩)
  have hf : H1 s1.heap.objs.size = none := I1.hok.fresh (Nat.le_refl _)
  refine ⟨.ref s1.heap.objs.size, upd H1 s1.heap.objs.size (.tup xs), I1.laid (t' := s1.toks) (fun b u e => Heap.get?_push_of_some _ e) (Nat.le_refl _) ?_, rfl, q _ hf⟩
  exact ⟨z, us, r, ⟨_, Heap.get?_push_size _ rfl, rfl, _, rfl⟩⟩
theorem pe_lst (h : PA X es t) : PE X (.List es pos) (tLst t) := by
  intro pins s σ H Q I hq
  refine wpAny_List_spliced (thn (h pos pins s σ H _ I hq) fun us s1 ⟨xs, H1, I1, r, z, q⟩ => ⟨by rw [← r.length]; exact z, ?_⟩)
  have hf : H1 s1.heap.objs.size = none := I1.hok.fresh (Nat.le_refl _)
  refine ⟨.ref s1.heap.objs.size, upd H1 s1.heap.objs.size (.lst xs), I1.laid (t' := s1.toks) (fun b u e => Heap.get?_push_of_some _ e) (Nat.le_refl _) ?_, rfl, q _ hf⟩
  exact ⟨z, us, 0, r, Heap.get?_push_size _ rfl⟩
end
abbrev Sp := List V → Hp → VK → XK → Prop
abbrev CXT := List Env → Hp → Shared → XK → Value → Shared → Prop
structure Env0 (P : Program) (w : World) (K : PySem.W.Frag) (mg : Str → Option Value) (base : Heap) (A : Around) (outer : List Env) (s : Shared) (H : Hp) : Prop where
  frames : A.frames = some outer
  mod : Mod K mg base
  bs : ∀ b o, base.get? b = some o → s.heap.get? b = some o ∧ H b = none
  bsz : base.objs.size ≤ s.heap.objs.size
  funs : s.heap.FunFrames base outer
  frf : ∀ b ∈ frs outer, H b = none
  hok : HOk P w H s.heap
  bare : AllBare s.gens
def CE (outer : List Env) (P : Program) (w : World) (H : Hp) (s : Shared) (Q : VK) (u : Value) (s' : Shared) : Prop :=
  ∃ v H', s'.os = s.os ∧ AllBare s'.gens ∧ Un (frs outer) [] H H' s.heap s'.heap ∧ HOk P w H' s'.heap ∧ RelV v u ∧ Q v H'
def CR (CX : CXT) (outer : List Env) (P : Program) (w : World) (H : Hp) (s : Shared) (Q : VK) (E : XK) (r : Result) (s' : Shared) : Prop :=
  match r with
  | .ok (.ret u) => CE outer P w H s Q u s'
  | .ok _ => False
  | .error e => CX outer H s E e s'
structure FnOk (P : Program) (w : World) (K : PySem.W.Frag) (mg : Str → Option Value) (base : Heap) (CX : CXT) (k : Nat) (f : Addr) (fd : FuncData) (ps : List Str) (sp : Sp) : Prop where
  len : ∀ vs H Q E, sp vs H Q E → vs.length = ps.length
  run : ∀ (A : Around) (outer : List Env) (s : Shared) (H : Hp) (args : Args) (us : List Value) (vs : List V) (Q : VK) (E : XK), Room k A → Env0 P w K mg base A outer s H → BindsTo s fd args (ps.zip us) → Vals vs us → sp vs H Q E →
    codeAny (model P w) A (.call (.ref f) args) (CR CX outer P w H s Q E) s
theorem FnOk.mono {P : Program} {w : World} {K : PySem.W.Frag} {mg : Str → Option Value} {base : Heap} {CX : CXT} {j k : Nat} {f : Addr} {fd : FuncData} {ps : List Str} {sp : Sp} (F : FnOk P w K mg base CX j f fd ps sp) (h : j ≤ k) :
    FnOk P w K mg base CX k f fd ps sp := ⟨F.len, fun A outer s H args us vs Q E hr => F.run A outer s H args us vs Q E (hr.mono h)⟩
theorem FnOk.imp {P : Program} {w : World} {K : PySem.W.Frag} {mg : Str → Option Value} {base : Heap} {CX : CXT} {k : Nat} {f : Addr} {fd : FuncData} {ps : List Str} {sp sp' : Sp} (F : FnOk P w K mg base CX k f fd ps sp)
    (h : ∀ vs H Q E, sp' vs H Q E → sp vs H Q E) : FnOk P w K mg base CX k f fd ps sp' :=
  ⟨fun vs H Q E q => F.len vs H Q E (h _ _ _ _ q), fun A outer s H args us vs Q E hr he hb hv hs => F.run A outer s H args us vs Q E hr he hb hv (h _ _ _ _ hs)⟩
theorem Env0.in1 {P : Program} {w : World} {K : PySem.W.Frag} {mg : Str → Option Value} {base : Heap} {A : Around} {outer : List Env} {s : Shared} {H : Hp} (e : Env0 P w K mg base A outer s H) :
    Env0 P w K mg base A.in1 outer s H := ⟨e.frames, e.mod, e.bs, e.bsz, e.funs, e.frf, e.hok, e.bare⟩
section
variable {X : Cx} {pins : List (Addr × Obj)} {σ : St} {H : Hp} {s s' : Shared}
theorem Inv.env0 (I : Inv X pins σ H s) : Env0 X.prog X.w X.K X.mg X.base X.A X.stack s H :=
  ⟨I.ok.frames, I.ok.mod, I.bs, Nat.le_trans I.ok.bsz I.sz, I.stack, I.stkFree, I.hok, I.bare⟩
theorem Inv.after {Q : VK} {u : Value} (I : Inv X pins σ H s) (h : CE X.stack X.prog X.w H s Q u s') : EP X pins σ Q u s' := by
  obtain ⟨v, H', os, bare, un, hok, r, q⟩ := h
  obtain ⟨hh, g, d, t, os'⟩ := s'
  obtain rfl : os' = s.os := os
  exact ⟨v, H', I.call (h' := hh) (g' := g) (d' := d) (t' := t) (ch := []) un hok bare (fun b z => absurd z (by simp)), r, q⟩
end
def tCall (sp : Sp) (dvs : List V) (E : XK) (t : TA) : TE := fun σ H Q => t σ H fun vs H1 => sp (vs ++ dvs) H1 Q E
def Binds (K : PySem.W.Frag) (fd : FuncData) (ps : List Str) (ds : List Value) : Prop :=
  ∀ (s : Shared) (us : List Value), K.In s.heap → (us ++ ds).length = ps.length → BindsTo s fd ⟨us, []⟩ (ps.zip (us ++ ds))
theorem Binds.all {K : PySem.W.Frag} {fd : FuncData} {ps : List Str} (h : ∀ us : List Value, us.length = ps.length → bindArgs fd ⟨us, []⟩ = pure (ps.zip us)) : Binds K fd ps [] := fun s us _ hl => by
  rw [List.append_nil] at hl ⊢
  exact .of_eq (h us hl)
def Passes (CX : CXT) (X : Cx) (E : XK) : Prop := ∀ (pins : List (Addr × Obj)) (σ : St) (H : Hp) (s : Shared) (e : Value) (s' : Shared), Inv X pins σ H s → CX X.stack H s E e s' → X.xe e s'
section
variable {X : Cx} {CX : CXT} {k : Nat} {f C : Addr} {fd : FuncData} {ps : List Str} {sp : Sp} {dvs : List V} {ds : List Value} {E : XK} {x m : Str} {p pos apos : Pos} {e o : Expr} {es : List Expr} {ta : TE} {t : TA}
theorem run_fn {pins : List (Addr × Obj)} {σ : St} {H : Hp} {s : Shared} {Q : VK} {us : List Value} {vs : List V} (F : FnOk X.prog X.w X.K X.mg X.base CX k f fd ps sp) (hr : Room k X.A) (hb : Binds X.K fd ps ds) (hd : Vals dvs ds) (hx : Passes CX X E)
    (I : Inv X pins σ H s) (r : Vals vs us) (h : sp (vs ++ dvs) H Q E) : wpAny (model X.prog X.w) X.A (call (.ref f) us) (EP X pins σ Q) X.xe s := by
  have r2 : Vals (vs ++ dvs) (us ++ ds) := r.append hd
  have hl : (us ++ ds).length = ps.length := by rw [← r2.length]; exact F.len _ _ _ _ h
  refine wpAny_call (codeAny_mono (F.run X.A X.stack s H ⟨us, []⟩ (us ++ ds) (vs ++ dvs) Q E hr I.env0 (hb s us I.kIn hl) r2 h) fun r s' hq => ?_)
  cases r with
  | error e => exact hx pins σ H s e s' I hq
  | ok fl =>
    cases fl with
    | ret u => exact I.after hq
    | next => exact False.elim hq
    | brk => exact False.elim hq
    | cont => exact False.elim hq
theorem pe_call (F : FnOk X.prog X.w X.K X.mg X.base CX k f fd ps sp) (hr : Room k X.A) (hg : Gl X x) (hm : X.mg x = some (.ref f)) (hk : PySem.W.keepIn X.K (.ref f) = true) (hb : Binds X.K fd ps ds) (hd : Vals dvs ds) (hx : Passes CX X E)
    (ha : PA X (e :: es) t) (hdb : (x == ("__debug__" : Str)) = false := by decide) (he : starEach (e :: es) X.env = (false, eval e X.env) :: starEach es X.env := by rfl) (hpl : (backTo pos (starEach es X.env)).any (·.1) = false := by rfl) :
    PE X (.Call (.Name x p) (e :: es) [] pos) (tCall sp dvs E t) := by
  intro pins s σ H Q I h
  refine wpAny_Call_Name_kw (ld_glob I hg hm ?_ hdb)
  refine PySem.W.callWith_K (h₀ := X.base) I.ok.mod.kin hk (thn (ha pos pins s σ H _ I h) fun us s1 ⟨vs, H1, I1, r, q⟩ => ⟨I1.kIn, ?_⟩) he hpl
  exact run_fn F hr hb hd hx I1 r q
structure Mk (K : PySem.W.Frag) (C f : Addr) : Prop where
  makes : PySem.W.makesIn K C = true
  init : PySem.W.findIn K (.ref C) "__init__" = some (some (.ref f))
  fn : PySem.W.isFn K (.ref f) = true
  kp : PySem.W.keepIn K (.ref C) = true
end
section
variable {X : Cx} {CX : CXT} {k : Nat} {f C : Addr} {fd : FuncData} {ps ks : List Str} {sp : Sp} {E : XK} {x m : Str} {p pos apos kpos : Pos} {e o : Expr} {es : List Expr} {kws : List Keyword} {te ta : TE} {t tk : TA} {nm : Option Str}
structure KBinds (K : PySem.W.Frag) (fd : FuncData) (ps ks : List Str) (g : List Value → List Value → List Value) (gV : List V → List V → List V) : Prop where
  to : ∀ (s : Shared) (us ws : List Value), K.In s.heap → (g us ws).length = ps.length → BindsTo s fd ⟨us, ks.zip ws⟩ (ps.zip (g us ws))
  rel : ∀ {vs : List V} {us : List Value} {zs : List V} {ws : List Value}, Vals vs us → Vals zs ws → Vals (gV vs zs) (g us ws)
variable {g : List Value → List Value → List Value} {gV : List V → List V → List V}
end
structure FnScope (N P : List Str) (sc : Scope) : Prop where
  kind : sc.kind = .function
  co : sc.isCoroutine = false
  gen : sc.isGenerator = false
  nd : N.Nodup
  pre : N.take P.length = P
  par : ∀ x ∈ P, sc.names.lookup x = some .local ∨ sc.names.lookup x = some .cell
  nofree : ∀ y ∈ sc.names, y.2 ≠ .free
theorem bindL_out {kindOf : Str → Option NameKind} {x : Str} : ∀ {binds : List (Str × Value)} {m : Str → Option Value}, (∀ v, (x, v) ∉ binds) → bindL kindOf binds m x = m x
  | [], _, _ => rfl
  | (n, v) :: r, m, h => by
    unfold bindL
    rw [bindL_out fun w hw => h w (List.mem_cons_of_mem _ hw)]
    split
    · have : x ≠ n := by rintro rfl; exact h v List.mem_cons_self
      simp [this]
    · rfl
theorem bindC_out {kindOf : Str → Option NameKind} {x : Str} : ∀ {binds : List (Str × Value)} {m : Str → Option Value}, (∀ v, (x, v) ∉ binds) → bindC kindOf binds m x = m x
  | [], _, _ => rfl
  | (n, v) :: r, m, h => by
    unfold bindC
    rw [bindC_out fun w hw => h w (List.mem_cons_of_mem _ hw)]
    split
    · rfl
    · have : x ≠ n := by rintro rfl; exact h v List.mem_cons_self
      simp [this]
theorem bindL_get {kindOf : Str → Option NameKind} {x : Str} {v : Value} : ∀ {P : List Str} {vs : List Value} {i : Nat} {m : Str → Option Value}, P.Nodup → P[i]? = some x → vs[i]? = some v → kindOf x = some .local →
    bindL kindOf (P.zip vs) m x = some v
  | [], _, _, _, _, h, _, _ => by simp at h
  | _ :: _, [], _, _, _, _, h, _ => by simp at h
  | p :: P, w :: vs, 0, m, nd, h1, h2, hk => by
    simp at h1 h2; subst h1; subst h2
    show bindL kindOf ((p, w) :: P.zip vs) m p = _
    unfold bindL
    rw [bindL_out fun v hv => (List.nodup_cons.mp nd).1 (List.of_mem_zip hv).1, if_pos hk]
    simp
  | p :: P, w :: vs, i + 1, m, nd, h1, h2, hk => by
    show bindL kindOf ((p, w) :: P.zip vs) m x = _
    unfold bindL
    exact bindL_get (i := i) (List.nodup_cons.mp nd).2 (by simpa using h1) (by simpa using h2) hk
theorem bindC_get {kindOf : Str → Option NameKind} {x : Str} {v : Value} : ∀ {P : List Str} {vs : List Value} {i : Nat} {m : Str → Option Value}, P.Nodup → P[i]? = some x → vs[i]? = some v → kindOf x ≠ some .local →
    bindC kindOf (P.zip vs) m x = some v
  | [], _, _, _, _, h, _, _ => by simp at h
  | _ :: _, [], _, _, _, _, h, _ => by simp at h
  | p :: P, w :: vs, 0, m, nd, h1, h2, hk => by
    simp at h1 h2; subst h1; subst h2
    show bindC kindOf ((p, w) :: P.zip vs) m p = _
    unfold bindC
    rw [bindC_out fun v hv => (List.nodup_cons.mp nd).1 (List.of_mem_zip hv).1, if_neg hk]
    simp
  | p :: P, w :: vs, i + 1, m, nd, h1, h2, hk => by
    show bindC kindOf ((p, w) :: P.zip vs) m x = _
    unfold bindC
    exact bindC_get (i := i) (List.nodup_cons.mp nd).2 (by simpa using h1) (by simpa using h2) hk
def start (N : List Str) (vs : List V) : St := vs.map some ++ List.replicate (N.length - vs.length) none
def cxOf (CX : CXT) (P : Program) (w : World) (K : PySem.W.Frag) (mg : Str → Option Value) (base : Heap) (N : List Str) (qual : Str) (scope : Scope) (f : Addr) (cd : Value) (A : Around) (outer : List Env) (s : Shared) (H : Hp) (E : XK) : Cx where
  prog := P
  w := w
  K := K
  mg := mg
  base := base
  A := A.deeper (envOfC qual scope s.heap.objs.size f cd)
  N := N
  s₀ := s
  H₀ := H
  env := envOfC qual scope s.heap.objs.size f cd
  outer := outer
  stack := envOfC qual scope s.heap.objs.size f cd :: outer
  ex := []
  calm := true
  fn := fun _ => true
  pn := []
  xe := fun e s' => wpAny (model P w) (A.deeper (envOfC qual scope s.heap.objs.size f cd)) (leaving (envOfC qual scope s.heap.objs.size f cd) e) (fun _ s'' => CX outer H s E e s'') (fun e' s'' => CX outer H s E e' s'') s'
theorem cell_has {sc : Scope} {n : Nat} {x : Str} (h : sc.names.lookup x = some .cell) : ∃ c, (cellsFrom n sc.names []).lookup x = some c := by
  have q := PySem.W.cellsFrom_some sc.names n [] (.inl h)
  exact Option.isSome_iff_exists.mp q
theorem inv_start {CX : CXT} {P : Program} {w : World} {K : PySem.W.Frag} {mg : Str → Option Value} {base : Heap} {N ps : List Str} {qual : Str} {scope : Scope} {f : Addr} {cd : Value} {A : Around} {outer : List Env} {s s1 : Shared} {H : Hp} {E : XK} {us : List Value} {vs : List V}
    (S : FnScope N ps scope) (hd : A.handled = none) (e0 : Env0 P w K mg base A outer s H) (hl : vs.length = ps.length) (r : Vals vs us)
    (x : InCallC s s.heap.objs.size (bindL (envOfC qual scope s.heap.objs.size f cd).kindOf (ps.zip us) fun _ => none) (cellsFrom (s.heap.objs.size + 1) scope.names []) (bindC (envOfC qual scope s.heap.objs.size f cd).kindOf (ps.zip us) fun _ => none) s1) :
    Inv (cxOf CX P w K mg base N qual scope f cd A outer s H E) [] (start N vs) H s1 := by
  have hpl : ps.length ≤ N.length := by have := congrArg List.length S.pre; rw [List.length_take] at this; omega
  obtain ⟨h1, tk, rfl, hk⟩ := x.done
  have noA : ∀ b : Addr, b ∉ (cxOf CX P w K mg base N qual scope f cd A outer s H E).ex := fun b z => absurd (show b ∈ ([] : List Addr) from z) (by simp)
  refine ⟨⟨e0.mod, S.kind, rfl, rfl, Nat.le_refl _, fun y z c h1 h2 => ?_, fun y hy => ?_, fun y c _ h => ?_, fun _ => hd, Around.frames_deeper e0.frames, .inr ⟨rfl, rfl⟩, fun b z => absurd z (noA b), e0.bs, e0.bsz, fun b _ _ => noA b, fun b z => absurd z (noA b), e0.funs, e0.frf⟩,
    rfl, e0.bare, Un.kept hk, ⟨_, x.toInCall.ns, fun i y v h1 h2 h3 => ?_⟩, fun y c h => ⟨_, x.cell y c h⟩, e0.hok.fresh (Nat.le_refl _), fun y c h => ?_, fun p hp => absurd (show p ∈ ([] : List (Addr × Obj)) from hp) (by simp), e0.hok.kept hk, ?_⟩
  · exact name_of_addr x.apart (PySem.mem_of_lookup h1) (PySem.mem_of_lookup h2)
  · have hy : scope.names.lookup y = some .cell ∨ scope.names.lookup y = some .free := hy
    rcases hy with hy | hy
    · exact cell_has hy
    · exact absurd rfl (S.nofree _ (PySem.mem_of_lookup hy))
  · exact Nat.le_of_lt (x.above y c (PySem.mem_of_lookup h))
  · have hi : i < vs.length := by
      unfold start at h2
      by_cases hi : i < vs.length
      · exact hi
      · rw [List.getElem?_append_right (by simpa using hi)] at h2
        rw [List.getElem?_replicate] at h2
        split at h2 <;> cases h2
    have ha : vs[i]? = some v := by
      unfold start at h2
      rw [List.getElem?_append_left (by simpa using hi), List.getElem?_map] at h2
      cases e : vs[i]? with
      | none => rw [e] at h2; cases h2
      | some a => rw [e] at h2; cases h2; rfl
    obtain ⟨u, hu, rv⟩ := r.get ha
    have hp : ps[i]? = some y := by
      rw [← S.pre, List.getElem?_take_of_lt (by omega)]; exact h1
    have ndP : ps.Nodup := by rw [← S.pre]; exact S.nd.sublist (List.take_sublist _ _)
    refine ⟨u, rv, ?_⟩
    rcases S.par y (List.mem_of_getElem? hp) with k | k
    · exact .inl ⟨k, bindL_get ndP hp hu k⟩
    · obtain ⟨c, e⟩ := cell_has (n := s.heap.objs.size + 1) k
      refine .inr ⟨.inl k, c, e, ?_⟩
      have q := x.cell y c e
      rw [bindC_get ndP hp hu (by show scope.names.lookup y ≠ _; rw [k]; decide)] at q
      exact q
  · exact e0.hok.fresh (Nat.le_of_lt (x.above y c (PySem.mem_of_lookup h)))
  · unfold start
    show _ = N.length
    rw [List.length_append, List.length_map, List.length_replicate]
    omega
theorem fn_of {CX : CXT} {P : Program} {w : World} {K : PySem.W.Frag} {mg : Str → Option Value} {base : Heap} {k : Nat} {f : Addr} {name qual : Str} {params : Arguments} {body : List Stmt} {scope : Scope} {dV kV doc pm cdv ct oc : Value} {an od : Option Addr}
    {osl : Array (Option Value)} {N ps : List Str} {sp : Sp} (lk : K.lookup f = some ⟨oc, od, .func (PySem.W.fnOf name qual params body scope dV kV doc pm an cdv ct), osl⟩) (hcd : PySem.W.codeIn K cdv qual = true) (S : FnScope N ps scope)
    (len : ∀ vs H Q E, sp vs H Q E → vs.length = ps.length)
    (hbody : ∀ (A : Around) (outer : List Env) (s : Shared) (H : Hp) (vs : List V) (Q : VK) (E : XK), Room k (A.deeper (envOfC qual scope s.heap.objs.size f cdv)) → sp vs H Q E →
      ∃ t, PSs (cxOf CX P w K mg base N qual scope f cdv A outer s H E) body t ∧ t { nx := fun _ H' => Q .non H', rt := Q } (start N vs) H) :
    FnOk P w K mg base CX (k + 1) f (PySem.W.fnOf name qual params body scope dV kV doc pm an cdv ct) ps sp := by
  refine ⟨len, fun A outer s H args us vs Q E hr e0 hb r hsp => ?_⟩
  have hl := len _ _ _ _ hsp
  have KX : K.In s.heap := e0.mod.kin.keeps fun b o e => (e0.bs b o e).1
  have lim : s.heap.NoLimit := e0.mod.nolimit.keeps fun b o e => (e0.bs b o e).1
  have hkind : ∀ y ∈ ps.zip us, scope.names.lookup y.1 = some .local ∨ (scope.names.lookup y.1 = some .cell ∧ ((cellsFrom (s.heap.objs.size + 1) scope.names []).lookup y.1).isSome = true) := fun ⟨n, v⟩ hy => by
    rcases S.par n (List.of_mem_zip hy).1 with q | q
    · exact .inl q
    · exact .inr ⟨q, PySem.W.cellsFrom_some _ _ _ (.inl q)⟩
  refine codeAny_call_function hr.depth (KX _ _ lk) rfl S.co S.gen rfl (PySem.W.codeRec_of KX hcd) (hb _ _ _ _ ?_)
  refine wpAny_newFunctionEnv_cells S.kind hkind fun env he s1 x => ?_
  subst he
  refine ⟨lim.keeps x.toInCall.keep, codeAny_func ?_⟩
  obtain ⟨t, ht, hq⟩ := hbody A outer s H vs Q E (hr.deeper _) hsp
  have I : Inv (cxOf CX P w K mg base N qual scope f cdv A outer s H E) [] (start N vs) H s1 := inv_start S hr.hd e0 hl r x
  refine wpAny_mono (ht [] s1 (start N vs) H _ I hq) (fun fl s' hs => ?_) fun e s' hs => hs
  have fin : ∀ {σ' : St} {H' : Hp} {v : V} {u : Value}, Inv (cxOf CX P w K mg base N qual scope f cdv A outer s H E) [] σ' H' s' → RelV v u → Q v H' → CE outer P w H s Q u s' :=
    fun {σ' H' v u} J rv q => ⟨v, H', J.os, J.bare, J.base, J.hok, rv, q⟩
  cases fl with
  | ret u =>
    obtain ⟨v, σ', H', J, rv, q⟩ := hs
    exact fin J rv q
  | next =>
    obtain ⟨σ', H', J, q⟩ := hs
    exact fin (v := V.non) (u := Value.none) J rfl q
  | brk =>
    obtain ⟨_, _, _, q⟩ := hs
    exact False.elim q
  | cont =>
    obtain ⟨_, _, _, q⟩ := hs
    exact False.elim q
end L2
namespace L2
open PySem PySem.Spec PyProof.Rows
section
variable {X : Cx} {x : Str} {p pos : Pos} {e : Expr} {es : List Expr} {t : TA} {id T : String} {r : List V → Hp → VK → Prop}
def tCB (r : List V → Hp → VK → Prop) (t : TA) : TE := fun σ H Q => t σ H fun vs H1 => r vs H1 Q
theorem pe_callB (hc : CallR X (.builtin id) r) (hg : Gl X x) (hm : X.mg x = none) (hv : bootBuiltins x = some (.builtin id)) (ha : PA X (e :: es) t) (hn : x ≠ "__name__" := by decide) (hdb : (x == ("__debug__" : Str)) = false := by decide)
    (he : starEach (e :: es) X.env = (false, eval e X.env) :: starEach es X.env := by rfl) (hpl : (backTo pos (starEach es X.env)).any (·.1) = false := by rfl) : PE X (.Call (.Name x p) (e :: es) [] pos) (tCB r t) := by
  intro pins s σ H Q I h
  refine wpAny_Call_Name_kw (ld_blt I hg hm hv ?_ hn hdb)
  exact PyProof.Rows.callWith_builtin1 (thn (ha pos pins s σ H _ I h) fun us s1 ⟨vs, H1, I1, r1, q1⟩ => hc pins s1 σ H1 vs us Q I1 r1 q1) he hpl
theorem pe_callTy (hc : CallR X (.type T) r) (hg : Gl X x) (hm : X.mg x = none) (hv : bootBuiltins x = some (.type T)) (ha : PA X (e :: es) t) (hn : x ≠ "__name__" := by decide) (hdb : (x == ("__debug__" : Str)) = false := by decide)
    (he : starEach (e :: es) X.env = (false, eval e X.env) :: starEach es X.env := by rfl) (hpl : (backTo pos (starEach es X.env)).any (·.1) = false := by rfl) : PE X (.Call (.Name x p) (e :: es) [] pos) (tCB r t) := by
  intro pins s σ H Q I h
  refine wpAny_Call_Name_kw (ld_blt I hg hm hv ?_ hn hdb)
  exact PyProof.Rows.callWith_type1 (thn (ha pos pins s σ H _ I h) fun us s1 ⟨vs, H1, I1, r1, q1⟩ => hc pins s1 σ H1 vs us Q I1 r1 q1) he hpl
end
end L2
namespace L2
open PySem PySem.Spec PyProof.Rows
section
variable {κ : Type} [DecidableEq κ]
def valV (kvs : List (κ × V)) (k : κ) : Option V := (kvs.find? fun kv => decide (kv.1 = k)).map (·.2)
def putK (kvs : List (κ × V)) (k : κ) (v : V) : List (κ × V) :=
  if (kvs.any fun kv => decide (kv.1 = k)) = true then kvs.map (fun kv => if kv.1 = k then (kv.1, v) else kv) else kvs ++ [(k, v)]
def dropK (kvs : List (κ × V)) (k : κ) : List (κ × V) := kvs.filter fun kv => decide (kv.1 ≠ k)
theorem valV_pos {p : κ × V} {r : List (κ × V)} {k : κ} (e : p.1 = k) : valV (p :: r) k = some p.2 := by simp [valV, List.find?_cons, e]
theorem valV_neg {p : κ × V} {r : List (κ × V)} {k : κ} (e : ¬ p.1 = k) : valV (p :: r) k = valV r k := by simp [valV, List.find?_cons, e]
theorem valV_any (k : κ) : ∀ kvs : List (κ × V), (kvs.any fun kv => decide (kv.1 = k)) = (valV kvs k).isSome
  | [] => rfl
  | p :: r => by
    rw [List.any_cons]
    by_cases e : p.1 = k
    · simp only [valV_pos e, decide_eq_true e, Bool.true_or, Option.isSome_some]
    · rw [valV_neg e, decide_eq_false e, Bool.false_or]; exact valV_any k r
theorem valV_map (k j : κ) (y : V) : ∀ kvs : List (κ × V), valV (kvs.map fun kv => if kv.1 = k then (kv.1, y) else kv) j = (valV kvs j).map fun x => if j = k then y else x
  | [] => rfl
  | p :: r => by
    have ih := valV_map k j y r
    rw [List.map_cons]
    by_cases h : p.1 = k
    · rw [if_pos h]
      by_cases e : p.1 = j
      · rw [valV_pos (p := (p.1, y)) e, valV_pos e, Option.map_some, if_pos (e.symm.trans h)]
      · rw [valV_neg (p := (p.1, y)) e, valV_neg e, ih]
    · rw [if_neg h]
      by_cases e : p.1 = j
      · rw [valV_pos (p := p) e, valV_pos e, Option.map_some, if_neg (fun z => h (e.trans z))]
      · rw [valV_neg (p := p) e, valV_neg e, ih]
theorem valV_snoc (k j : κ) (y : V) : ∀ kvs : List (κ × V), valV kvs k = none → valV (kvs ++ [(k, y)]) j = if j = k then some y else valV kvs j
  | [], _ => by
    by_cases e : k = j
    · rw [if_pos e.symm]; exact valV_pos (p := (k, y)) e
    · rw [if_neg (fun z => e z.symm)]; exact valV_neg (p := (k, y)) e
  | p :: r, hn => by
    rw [List.cons_append]
    have hk : ¬ p.1 = k := fun z => by rw [valV_pos z] at hn; cases hn
    rw [valV_neg hk] at hn
    have ih := valV_snoc k j y r hn
    by_cases e : p.1 = j
    · rw [valV_pos e, valV_pos e, if_neg (fun z => hk (e.trans z))]
    · rw [valV_neg e, valV_neg e, ih]
theorem valV_put (kvs : List (κ × V)) (k j : κ) (y : V) : valV (putK kvs k y) j = if j = k then some y else valV kvs j := by
  unfold putK
  by_cases a : (kvs.any fun kv => decide (kv.1 = k)) = true
  · rw [if_pos a, valV_map]
    rw [valV_any] at a
    by_cases e : j = k
    · obtain ⟨x, hx⟩ := Option.isSome_iff_exists.mp a
      rw [if_pos e, e, hx, Option.map_some, if_pos rfl]
    · rw [if_neg e]
      cases valV kvs j with
      | none => rfl
      | some x => rw [Option.map_some, if_neg e]
  · rw [if_neg a]
    refine valV_snoc k j y kvs ?_
    rw [valV_any] at a
    cases q : valV kvs k with
    | none => rfl
    | some x => rw [q] at a; exact (a rfl).elim
theorem length_putK (kvs : List (κ × V)) (k : κ) (v : V) : (putK kvs k v).length ≤ kvs.length + 1 := by
  unfold putK
  split
  · rw [List.length_map]; omega
  · rw [List.length_append, List.length_cons, List.length_nil]; omega
theorem putK_new {kvs : List (κ × V)} {k : κ} (v : V) (h : valV kvs k = none) : putK kvs k v = kvs ++ [(k, v)] := by
  unfold putK
  rw [valV_any, h]
  exact if_neg (by decide)
theorem RelO.isSome_eq {o : Option V} {u : Option Value} (r : RelO o u) : o.isSome = u.isSome := by
  cases o with
  | none => cases u with
    | none => rfl
    | some _ => exact (show False from r).elim
  | some _ => cases u with
    | none => exact (show False from r).elim
    | some _ => rfl
theorem RelO.getD {o : Option V} {u : Option Value} {d : V} {d' : Value} (r : RelO o u) (rd : RelV d d') : RelV (o.getD d) (u.getD d') := by
  cases o with
  | none => cases u with
    | none => exact rd
    | some _ => exact (show False from r).elim
  | some _ => cases u with
    | none => exact (show False from r).elim
    | some _ => exact r
theorem KV.val {kvs : List (κ × V)} {vs : List (κ × Value)} (r : KV kvs vs) (k : κ) : RelO (valV kvs k) (valueAt vs k) := by
  unfold KV at r
  induction r with
  | nil => exact True.intro
  | @cons p q ps qs h t ih =>
    obtain ⟨h1, h2⟩ := h
    by_cases e : p.1 = k
    · have e' : q.1 = k := h1.symm.trans e
      have b : valueAt (q :: qs) k = some q.2 := by simp [valueAt, List.find?_cons, e']
      rw [valV_pos e, b]; exact h2
    · have e' : ¬ q.1 = k := fun z => e (h1.trans z)
      have b : valueAt (q :: qs) k = valueAt qs k := by simp [valueAt, List.find?_cons, e']
      rw [valV_neg e, b]; exact ih
theorem KV.any {kvs : List (κ × V)} {vs : List (κ × Value)} (r : KV kvs vs) (k : κ) : (kvs.any fun kv => decide (kv.1 = k)) = vs.any fun kv => decide (kv.1 = k) := by
  unfold KV at r
  induction r with
  | nil => rfl
  | cons h t ih => rw [List.any_cons, List.any_cons, ih, h.1]
theorem KV.repl {kvs : List (κ × V)} {vs : List (κ × Value)} (r : KV kvs vs) (k : κ) {y : V} {u : Value} (ry : RelV y u) :
    KV (kvs.map fun kv => if kv.1 = k then (kv.1, y) else kv) (vs.map fun kv => if kv.1 = k then (kv.1, u) else kv) := by
  unfold KV at r ⊢
  induction r with
  | nil => exact .nil
  | @cons p q ps qs h t ih =>
    rw [List.map_cons, List.map_cons]
    refine .cons ?_ ih
    obtain ⟨h1, h2⟩ := h
    by_cases e : p.1 = k
    · rw [if_pos e, if_pos (h1.symm.trans e)]; exact ⟨h1, ry⟩
    · rw [if_neg e, if_neg (fun z => e (h1.trans z))]; exact ⟨h1, h2⟩
theorem KV.put {kvs : List (κ × V)} {vs : List (κ × Value)} (r : KV kvs vs) (k : κ) {y : V} {u : Value} (ry : RelV y u) : KV (putK kvs k y) (stored vs k u) := by
  unfold putK stored
  rw [r.any k]
  by_cases e : (vs.any fun kv => decide (kv.1 = k)) = true
  · rw [if_pos e, if_pos e]; exact r.repl k ry
  · rw [if_neg e, if_neg e]; exact Paired.snoc r ⟨rfl, ry⟩
theorem KV.drop {kvs : List (κ × V)} {vs : List (κ × Value)} (r : KV kvs vs) (k : κ) : KV (dropK kvs k) (without vs k) := by
  unfold KV at r ⊢
  unfold dropK without
  induction r with
  | nil => exact .nil
  | @cons p q ps qs h t ih =>
    obtain ⟨h1, h2⟩ := h
    rw [List.filter_cons, List.filter_cons]
    by_cases e : p.1 = k
    · have a : ¬ decide (p.1 ≠ k) = true := by simp [e]
      have b : ¬ decide (q.1 ≠ k) = true := by simp [h1.symm.trans e]
      rw [if_neg a, if_neg b]; exact ih
    · have e' : ¬ q.1 = k := fun z => e (h1.trans z)
      have a : decide (p.1 ≠ k) = true := by simp [e]
      have b : decide (q.1 ≠ k) = true := by simp [e']
      rw [if_pos a, if_pos b]; exact .cons ⟨h1, h2⟩ ih
theorem KV.length {kvs : List (κ × V)} {vs : List (κ × Value)} (r : KV kvs vs) : kvs.length = vs.length := Paired.length r
end
theorem kV_is {P : Program} {w : World} {k : Key} {u : Value} (r : RelV (kV k) u) : (mixKind P w).is k u = true := by
  cases k with
  | inl i => obtain ⟨t, e⟩ := (show ∃ t, u = Value.int i t from r); subst e; exact mixKind_int P w i t
  | inr x => obtain ⟨t, e⟩ := (show ∃ t, u = Value.str x t from r); subst e; exact mixKind_str P w x t
theorem items_are {P : Program} {w : World} : ∀ {ks : List Key} {us : List Value}, Vals (ks.map kV) us → ItemsAre (mixKind P w) ks us
  | [], _, r => by rw [List.map_nil] at r; cases r; exact .nil
  | k :: ks, _, r => by
    rw [List.map_cons] at r
    cases r with
    | cons h t => exact .cons (kV_is h) (items_are t)
abbrev KT (H : Hp) : List (List Key × V) → List (List Key × Addr × Value) → Prop := Paired fun p q => p.1 = q.1 ∧ H q.2.1 = some (.tup (p.1.map kV)) ∧ RelV p.2 q.2.2
theorem KT.val {H : Hp} {kvs : List (List Key × V)} {xs : List (List Key × Addr × Value)} (r : KT H kvs xs) (k : List Key) : RelO (valV kvs k) ((atKey xs k).map (·.2)) := by
  induction r with
  | nil => exact True.intro
  | @cons p q ps qs h t ih =>
    obtain ⟨h1, _, h2⟩ := h
    by_cases e : p.1 = k
    · have e' : q.1 = k := h1.symm.trans e
      have b : atKey (q :: qs) k = some q.2 := by simp [atKey, List.find?_cons, e']
      rw [valV_pos e, b]; exact h2
    · have e' : ¬ q.1 = k := fun z => e (h1.trans z)
      have b : atKey (q :: qs) k = atKey qs k := by simp [atKey, List.find?_cons, e']
      rw [valV_neg e, b]; exact ih
theorem KT.repl {H : Hp} {kvs : List (List Key × V)} {xs : List (List Key × Addr × Value)} (r : KT H kvs xs) (k : List Key) {y : V} {u : Value} (ry : RelV y u) :
    KT H (kvs.map fun kv => if kv.1 = k then (kv.1, y) else kv) (xs.map (putAt k u)) := by
  induction r with
  | nil => exact .nil
  | @cons p q ps qs h t ih =>
    rw [List.map_cons, List.map_cons]
    refine .cons ?_ ih
    obtain ⟨h1, h2, h3⟩ := h
    unfold putAt
    by_cases e : p.1 = k
    · rw [if_pos e, if_pos (h1.symm.trans e)]; exact ⟨h1, h2, ry⟩
    · rw [if_neg e, if_neg (fun z => e (h1.trans z))]; exact ⟨h1, h2, h3⟩
theorem KT.put {H : Hp} {kvs : List (List Key × V)} {xs : List (List Key × Addr × Value)} (r : KT H kvs xs) (k : List Key) {b : Addr} {y : V} {u : Value} (hb : H b = some (.tup (k.map kV))) (ry : RelV y u) :
    KT H (putK kvs k y) (storedH xs k b u) := by
  have e : (kvs.any fun kv => decide (kv.1 = k)) = (atKey xs k).isSome := by
    rw [valV_any, (r.val k).isSome_eq, Option.isSome_map]
  unfold putK storedH
  rw [e]
  by_cases q : (atKey xs k).isSome = true
  · rw [if_pos q, if_pos q]; exact r.repl k ry
  · rw [if_neg q, if_neg q]; exact Paired.snoc r ⟨rfl, hb, ry⟩
theorem KT.keeps {H H' : Hp} {kvs : List (List Key × V)} {xs : List (List Key × Addr × Value)} (r : KT H kvs xs) (ht : ∀ b ys, H b = some (.tup ys) → H' b = some (.tup ys)) : KT H' kvs xs :=
  Paired.mapP r fun _ _ z => ⟨z.1, ht _ _ z.2.1, z.2.2⟩
section
variable {P : Program} {w : World} {H : Hp} {h : Heap} {a : Addr}
theorem rd_of {u : HO} (ok : HOk P w H h) (e : Rd H a u) : ObjOk P w H h a u := e.ok ok
theorem dk_rd {kvs : List (Key × V)} (ok : HOk P w H h) (e : Rd H a (.dK kvs)) : kvs.length ≤ sizeLine ∧ (a == sysModules) = false ∧ ∃ vs, KV kvs vs ∧ h.DictOf (mixKind P w) a vs :=
  show ObjOk P w H h a (.dK kvs) from rd_of ok e
theorem dk_of {kvs : List (Key × V)} (ok : HOk P w H h) (e : H a = some (.dK kvs)) : kvs.length ≤ sizeLine ∧ (a == sysModules) = false ∧ ∃ vs, KV kvs vs ∧ h.DictOf (mixKind P w) a vs := dk_rd ok (.inl e)
theorem key_of {ks : List Key} (ok : HOk P w H h) (e : H a = some (.tup (ks.map kV))) : (tupleKind (mixKind P w)).is h ks a := by
  obtain ⟨_, its, r, o, h1, h2, n, h3⟩ := (show ObjOk P w H h a (.tup (ks.map kV)) from ok a _ e)
  exact ⟨o, its.toArray, n, h1, h2, h3, by simpa using items_are r⟩
theorem dt_rd {kvs : List (List Key × V)} (ok : HOk P w H h) (e : Rd H a (.dT kvs)) : kvs.length ≤ sizeLine ∧ (a == sysModules) = false ∧
    ∃ xs, KT H kvs xs ∧ h.DictOfH (tupleKind (mixKind P w)) a xs := by
  obtain ⟨z, y, xs, r, o, es, ep, h1, h2, h3, h4, h5⟩ := (show ObjOk P w H h a (.dT kvs) from rd_of ok e)
  refine ⟨z, y, xs, r, o, es, ep, h1, h2, h3, h4, fun x hx => ?_, h5⟩
  have all : ∀ {l : List (List Key × V)} {m : List (List Key × Addr × Value)}, KT H l m → ∀ x ∈ m, (tupleKind (mixKind P w)).is h x.1 x.2.1 := by
    intro l m q
    induction q with
    | nil => intro x hx; exact nomatch hx
    | @cons p q ps qs hq t ih =>
      intro x hx
      rcases List.mem_cons.mp hx with e | hx
      · subst e
        exact key_of ok (by rw [← hq.1]; exact hq.2.1)
      · exact ih x hx
  exact all r x hx
theorem dt_of {kvs : List (List Key × V)} (ok : HOk P w H h) (e : H a = some (.dT kvs)) : kvs.length ≤ sizeLine ∧ (a == sysModules) = false ∧
    ∃ xs, KT H kvs xs ∧ h.DictOfH (tupleKind (mixKind P w)) a xs := dt_rd ok (.inl e)
end
def DGet (H : Hp) (a : Addr) (y : V) (r : Option V) : Prop :=
  (∃ kvs k, Rd H a (.dK kvs) ∧ y = kV k ∧ r = valV kvs k) ∨ ∃ kvs k b, Rd H a (.dT kvs) ∧ y = .ref b ∧ H b = some (.tup (k.map kV)) ∧ r = valV kvs k
def DPut (H : Hp) (a : Addr) (y v : V) (H' : Hp) : Prop :=
  (∃ kvs k, H a = some (.dK kvs) ∧ y = kV k ∧ kvs.length < sizeLine ∧ H' = upd H a (.dK (putK kvs k v))) ∨
  ∃ kvs k b, H a = some (.dT kvs) ∧ y = .ref b ∧ H b = some (.tup (k.map kV)) ∧ kvs.length < sizeLine ∧ H' = upd H a (.dT (putK kvs k v))
theorem DGet.k {H : Hp} {a : Addr} {kvs : List (Key × V)} {k : Key} (e : H a = some (.dK kvs)) : DGet H a (kV k) (valV kvs k) := .inl ⟨kvs, k, .inl e, rfl, rfl⟩
theorem DGet.t {H : Hp} {a b : Addr} {kvs : List (List Key × V)} {k : List Key} (e : H a = some (.dT kvs)) (eb : H b = some (.tup (k.map kV))) : DGet H a (.ref b) (valV kvs k) := .inr ⟨kvs, k, b, .inl e, rfl, eb, rfl⟩
theorem DPut.k {H : Hp} {a : Addr} {kvs : List (Key × V)} {k : Key} {v : V} (e : H a = some (.dK kvs)) (hl : kvs.length < sizeLine) : DPut H a (kV k) v (upd H a (.dK (putK kvs k v))) := .inl ⟨kvs, k, e, rfl, hl, rfl⟩
theorem DPut.t {H : Hp} {a b : Addr} {kvs : List (List Key × V)} {k : List Key} {v : V} (e : H a = some (.dT kvs)) (eb : H b = some (.tup (k.map kV))) (hl : kvs.length < sizeLine) :
    DPut H a (.ref b) v (upd H a (.dT (putK kvs k v))) := .inr ⟨kvs, k, b, e, rfl, eb, hl, rfl⟩
section
variable {X : Cx} {pins : List (Addr × Obj)} {σ : St} {H : Hp} {s : Shared} {a : Addr} {y v : V} {u r : Value} {o : Option V} {A : Around} {E : Value → Shared → Prop}
theorem Inv.big (I : Inv X pins σ H s) : sysModules < s.heap.objs.size := by
  have h : mainGlobals < s.heap.objs.size := (I.mod.glob.keeps I.bk).lt
  exact Nat.lt_trans (by decide) h
theorem d_getItem {Q : Value → Shared → Prop} (hu : A.units + 1 < cLine) (I : Inv X pins σ H s) (g : DGet H a y (some v)) (ry : RelV y u) (h : ∀ w' s', Inv X pins σ H s' → RelV v w' → Q w' s') :
    wpAny (model X.prog X.w) A (getItem (.ref a) u) Q E s := by
  rcases g with ⟨kvs, k, e, ey, l⟩ | ⟨kvs, k, b, e, ey, eb, l⟩
  · subst ey
    obtain ⟨z, hd, vs, rel, dd⟩ := dk_rd I.hok e
    obtain ⟨w', hw, rw'⟩ := RelO.some_of (v := v) (o := valueAt vs k) (by rw [l]; exact rel.val k)
    exact wpAny_getItem_of (kV_is ry) dd.mapOf hw (h w' _ (I.tok _) rw')
  · subst ey
    cases (show u = Value.ref b from ry)
    obtain ⟨z, hd, xs, rel, dd⟩ := dt_rd I.hok e
    obtain ⟨w', hw, rw'⟩ := RelO.some_of (v := v) (o := (atKey xs k).map (·.2)) (by rw [l]; exact rel.val k)
    obtain ⟨p, hp, hp2⟩ := Option.map_eq_some_iff.mp hw
    refine wpAny_getItem_heap (tupleKind_room_in1 hu) (key_of I.hok eb) dd hp ?_
    rw [hp2]
    exact h w' _ (I.tok _) rw'
theorem d_notIn {Q : Value → Shared → Prop} (hu : A.units + 1 < cLine) (I : Inv X pins σ H s) (g : DGet H a y o) (ry : RelV y u) (h : ∀ s', Inv X pins σ H s' → Q (.bool (!o.isSome)) s') :
    wpAny (model X.prog X.w) A (compareOp .NotIn u (.ref a)) Q E s := by
  rcases g with ⟨kvs, k, e, ey, l⟩ | ⟨kvs, k, b, e, ey, eb, l⟩
  · subst ey
    obtain ⟨z, hd, vs, rel, dd⟩ := dk_rd I.hok e
    refine wpAny_notIn_of (kV_is ry) hd dd.mapOf ?_
    rw [← (rel.val k).isSome_eq, ← l]
    exact h _ (I.tok _)
  · subst ey
    cases (show u = Value.ref b from ry)
    obtain ⟨z, hd, xs, rel, dd⟩ := dt_rd I.hok e
    refine wpAny_notIn_heap (tupleKind_room_in1 hu) (key_of I.hok eb) hd dd ?_
    have q := (rel.val k).isSome_eq
    rw [Option.isSome_map] at q
    rw [← q, ← l]
    exact h _ (I.tok _)
theorem d_write {h' : Heap} {t' : Nat} {ob : HO} (I : Inv X pins σ H s) (mu : Mut (H a)) (hs : Heap.SameBut a s.heap h') (he : ∃ q, h'.get? a = some q) (new : ObjOk X.prog X.w (upd H a ob) h' a ob) :
    Inv X pins σ (upd H a ob) { s with heap := h', toks := t' } :=
  I.write (x := a) (e := a) mu (.inl rfl) (fun b q hb z => (hs.2 b hb).trans z) he new
theorem dk_new {P : Program} {w : World} {H' : Hp} {h' : Heap} {kvs : List (Key × V)} {vs : List (Key × Value)} (z : kvs.length ≤ sizeLine) (hd : (a == sysModules) = false) (rel : KV kvs vs) (dd : h'.DictOf (mixKind P w) a vs) :
    ObjOk P w H' h' a (.dK kvs) := ⟨z, hd, vs, rel, dd⟩
theorem d_setItem {H' : Hp} {Q : Unit → Shared → Prop} (hu : A.units + 1 < cLine) (I : Inv X pins σ H s) (g : DPut H a y v H') (ry : RelV y u) (rv : RelV v r) (h : ∀ s', Inv X pins σ H' s' → Q () s') :
    wpAny (model X.prog X.w) A (setItem (.ref a) u r) Q E s := by
  rcases g with ⟨kvs, k, e, ey, l, eH⟩ | ⟨kvs, k, b, e, ey, eb, l, eH⟩
  · subst ey eH
    obtain ⟨z, hd, vs, rel, dd⟩ := dk_of I.hok e
    have hz : vs.length ≤ sizeLine := by rw [← rel.length]; exact z
    have hl : (putK kvs k v).length ≤ sizeLine := by have := length_putK kvs k v; omega
    refine wpAny_setItem_pairs (hsz := hz) (kV_is ry) dd fun h' dd' hs => h _ ?_
    have he : ∃ q, h'.get? a = some q := let ⟨q, _, _, hq, _⟩ := dd'; ⟨q, hq⟩
    exact d_write I (by rw [e]; exact True.intro) hs he (dk_new hl hd (rel.put k rv) dd')
  · subst ey eH
    cases (show u = Value.ref b from ry)
    obtain ⟨z, hd, xs, rel, dd⟩ := dt_of I.hok e
    have hz : xs.length ≤ sizeLine := by rw [← Paired.length rel]; exact z
    have hl : (putK kvs k v).length ≤ sizeLine := by have := length_putK kvs k v; omega
    refine wpAny_setItem_heap (hsz := hz) (tupleKind_room_in1 hu) (key_of I.hok eb) dd fun h' dd' hs => h _ ?_
    obtain ⟨q, es, ep, hq, h2, h3, h4, _, h5⟩ := dd'
    refine d_write I (by rw [e]; exact True.intro) hs ⟨q, hq⟩ ⟨hl, hd, _, (rel.put k eb rv).keeps fun c ys ec => ?_, q, es, ep, hq, h2, h3, h4, h5⟩
    rw [upd_ne (ne_of ec e (fun z => nomatch z))]
    exact ec
end
section
variable {X : Cx} {pins : List (Addr × Obj)} {σ : St} {H : Hp} {s : Shared} {a : Addr} {kvs : List (Key × V)} {k : Key} {u : Value} {A : Around} {E : Value → Shared → Prop}
end
def NoSl (i : Expr) : Prop := ∀ ov iv, subscripted i false ov iv = operate [ov, iv] (getItem ov iv)
theorem subD_of {prog : Program} {w : World} {A : Around} {E : Value → Shared → Prop} {s : Shared} {env : Env} {value slice : Expr} {pos : Pos} {T id : String} {Q : Value → Shared → Prop}
    (hl : typeLookup (.type T) "__getitem__" = pure (some (.builtin id))) (hs : NoSl slice)
    (h : wpAny (model prog w) A (eval value env) (fun o s₁ => wpAny (model prog w) A (eval slice env) (fun i s₂ => s₂.TypeIs o T ∧ wpAny (model prog w) A (getItem o i) Q E s₂) E s₁) E s) :
    wpAny (model prog w) A (eval (.Subscript value slice pos) env) Q E s := by
  refine Subscript_ (wpAny_mono h (fun o s₁ h₁ => wpAny_mono h₁ (fun i s₂ h₂ => ?_) fun _ _ x => x) fun _ _ x => x)
  obtain ⟨hT, h₂⟩ := h₂
  unfold subscriptTail
  refine wpAny_bind ?_
  rw [getitemInPython_of_ne hT.not_modules]
  refine wpAny_bind (wpAny_specialOf hT hl ?_)
  have fin : wpAny (model prog w) A (subscripted slice false o i) (fun r s₃ => wpAny (model prog w) A (letTemporaryGo value o r >>= fun _ => pure r) Q E s₃) E s₂ := by
    rw [hs o i]
    exact wpAny_operating (wpAny_mono h₂ (fun r s₃ h₃ => wpAny_bind (wpAny_letTemporaryGo (wpAny_pure h₃))) fun _ _ x => x)
  first
    | exact wpAny_pure (wpAny_bind fin)
    | exact wpAny_bind (wpAny_pure (wpAny_bind fin))
    | exact wpAny_bind fin
theorem dict_typeIs {X : Cx} {pins : List (Addr × Obj)} {σ : St} {H : Hp} {s : Shared} {a : Addr} {y : V} {o : Option V} (I : Inv X pins σ H s) (g : DGet H a y o) : s.TypeIs (.ref a) "dict" := by
  rcases g with ⟨kvs, k, e, _, _⟩ | ⟨kvs, k, b, e, _, _, _⟩
  · obtain ⟨_, _, vs, _, dd⟩ := dk_rd I.hok e
    exact dd.typeIs
  · obtain ⟨_, _, xs, _, dd⟩ := dt_rd I.hok e
    exact dd.typeIs
def tDGet (td ty : TE) : TE := fun σ H Q => td σ H fun x H1 => ty σ H1 fun y H2 => ∃ a v, x = .ref a ∧ DGet H2 a y (some v) ∧ Q v H2
def tDNotIn (ty td : TE) : TE := fun σ H Q => ty σ H fun y H1 => td σ H1 fun x H2 => ∃ a o, x = .ref a ∧ DGet H2 a y o ∧ Q (.bl (!o.isSome)) H2
def sDPut (td ty tv : TE) : TS := fun D σ H => tv σ H fun v H1 => td σ H1 fun x H2 => ty σ H2 fun y H3 => ∃ a H4, x = .ref a ∧ DPut H3 a y v H4 ∧ D.nx σ H4
section
variable {X : Cx} {o i e value : Expr} {pos pos' tpos : Pos} {td ty tv : TE}
theorem pe_dget (hu : X.A.units + 1 < cLine) (ho : PE X o td) (hi : PE X i ty) (hs : NoSl i) : PE X (.Subscript o i pos) (tDGet td ty) := by
  intro pins s σ H Q I h
  refine subD_of PySem.F.slot_dict_getitem.lookup hs (thn (ho pins s σ H _ I h) fun u s1 ⟨x, H1, I1, rx, q1⟩ => thn (hi pins s1 σ H1 _ I1 q1) fun iv s2 ⟨y, H2, I2, ry, a, v, ex, g, q2⟩ => ?_)
  subst ex
  obtain rfl : u = Value.ref a := rx
  exact ⟨dict_typeIs I2 g, d_getItem hu I2 g ry fun w' s3 I3 rw' => ⟨v, H2, I3, rw', q2⟩⟩
theorem pc_dnotin (hu : X.A.units + 1 < cLine) (hi : PE X i ty) (ho : PE X o td) : PC X .NotIn i o (tDNotIn ty td) := by
  intro pins s σ H Q I h
  refine thn (hi pins s σ H _ I h) fun iv s1 ⟨y, H1, I1, ry, q1⟩ => thn (ho pins s1 σ H1 _ I1 q1) fun u s2 ⟨x, H2, I2, rx, a, ov, ex, g, q2⟩ => ?_
  subst ex
  obtain rfl : u = Value.ref a := rx
  exact d_notIn hu I2 g ry fun s3 I3 => ⟨.bl (!ov.isSome), H2, I3, rfl, q2⟩
theorem ps_dput (hu : X.A.units + 1 < cLine) (ho : PE X o td) (hi : PE X i ty) (hv : PE X value tv) (hs : swapsWith value (some (.Subscript o i pos')) pos.line X.env = pure false) :
    PS X (.Assign [.Subscript o i pos'] value pos) (sDPut td ty tv) := by
  intro pins s σ H D I h
  refine wpAny_Assign_Subscript (thn (hv pins s σ H _ I h) fun r s1 ⟨v, H1, I1, rv, q1⟩ => thn (ho pins s1 σ H1 _ I1 q1) fun u s2 ⟨x, H2, I2, rx, q2⟩ => thn (hi pins s2 σ H2 _ I2 q2) fun iv s3 ⟨y, H3, I3, ry, a, H4, ex, g, q3⟩ => ?_) hs
  subst ex
  obtain rfl : u = Value.ref a := rx
  exact d_setItem hu I3 g ry rv fun s4 I4 => ⟨σ, H4, I4, q3⟩
end
theorem dk_empty {P : Program} {w : World} {H : Hp} (h : Heap) (hb : sysModules < h.objs.size) : ObjOk P w H (h.push { cls := .type "dict", data := .dict #[] }) h.objs.size (.dK []) :=
  ⟨Nat.zero_le _, beq_eq_false_iff_ne.mpr (Ne.symm (Nat.ne_of_lt hb)), [], .nil, Heap.DictOf.new h⟩
def tDNewK : TE := fun _ H Q => ∀ p, H p = none → Q (.ref p) (upd H p (.dK []))
section
variable {X : Cx} {pos : Pos}
theorem pe_dnewK : PE X (.Dict [] [] pos) tDNewK := fun pins s σ H Q I h =>
  wpAny_Dict_empty ⟨.ref s.heap.objs.size, _, I.laid (a := s.heap.objs.size) (o := .dK []) (t' := s.toks) (fun _ _ q => Heap.get?_push_of_some _ q) (Nat.le_refl _) (dk_empty s.heap I.big), rfl, h _ (I.hok.fresh (Nat.le_refl _))⟩
end
def mergeK (kvs more : List (Key × V)) : List (Key × V) := more.foldl (fun acc kv => putK acc kv.1 kv.2) kvs
theorem KV.merge : ∀ {more : List (Key × V)} {rs : List (Key × Value)} {kvs : List (Key × V)} {vs : List (Key × Value)}, KV more rs → KV kvs vs → KV (mergeK kvs more) (merged vs rs) := by
  intro more rs kvs vs r
  unfold KV at r
  induction r generalizing kvs vs with
  | nil => intro q; exact q
  | @cons p q ps qs h t ih =>
    intro r0
    have e : KV (putK kvs p.1 p.2) (stored vs q.1 q.2) := by
      have := r0.put p.1 h.2
      rw [← h.1]; exact this
    exact ih e
structure M1 (X : Cx) (o : Expr) (m : Str) (apos : Pos) (e : Expr) (cpos : Pos) : Prop where
  base : attributeBase o m X.env (eval o X.env) = eval o X.env
  few : ((backTo cpos (starEach [e] X.env)).all (fun x => !x.1) && (backToKw cpos (keywordEach [] X.env)).all (fun x => x.1.isSome)
    && decide (([e] : List Expr).length + ([] : List Keyword).length + (if ([] : List Keyword).isEmpty then 0 else 1) < 30)) = true
  line : (apos.endLine == cpos.line) = true
  trees : backTo cpos (starEach [e] X.env) = [(false, eval e X.env)]
structure M2 (X : Cx) (o : Expr) (m : Str) (apos : Pos) (e f : Expr) (cpos : Pos) : Prop where
  base : attributeBase o m X.env (eval o X.env) = eval o X.env
  few : ((backTo cpos (starEach [e, f] X.env)).all (fun x => !x.1) && (backToKw cpos (keywordEach [] X.env)).all (fun x => x.1.isSome)
    && decide (([e, f] : List Expr).length + ([] : List Keyword).length + (if ([] : List Keyword).isEmpty then 0 else 1) < 30)) = true
  line : (apos.endLine == cpos.line) = true
  trees : backTo cpos (starEach [e, f] X.env) = [(false, eval e X.env), (false, eval f X.env)]
def IsD (H : Hp) (a : Addr) : Prop := (∃ kvs, Rd H a (.dK kvs)) ∨ ∃ kvs, Rd H a (.dT kvs)
theorem isD_at {X : Cx} {pins : List (Addr × Obj)} {σ : St} {H : Hp} {s : Shared} {a : Addr} (I : Inv X pins σ H s) (d : IsD H a) :
    s.TypeIs (.ref a) "dict" ∧ (∀ b, Value.ref a = .ref b → ∃ ob, s.heap.get? b = some ob ∧ ob.dict = none) ∧ (a == sysModules) = false := by
  rcases d with ⟨kvs, e⟩ | ⟨kvs, e⟩
  · obtain ⟨_, hd, vs, _, dd⟩ := dk_rd I.hok e
    refine ⟨dd.typeIs, fun b q => ?_, hd⟩
    cases q
    obtain ⟨ob, _, _, h1, h2, _⟩ := dd
    exact ⟨ob, h1, h2.2.1⟩
  · obtain ⟨_, hd, xs, _, dd⟩ := dt_rd I.hok e
    refine ⟨dd.typeIs, fun b q => ?_, hd⟩
    cases q
    obtain ⟨ob, _, _, h1, h2, _⟩ := dd
    exact ⟨ob, h1, h2.2.1⟩
section
variable {X : Cx} {pins : List (Addr × Obj)} {σ : St} {H : Hp} {s : Shared} {a : Addr} {y d : V} {u r : Value} {o : Option V} {A : Around} {E : Value → Shared → Prop}
theorem d_get2 {Q : Value → Shared → Prop} (hu : A.units + 1 < cLine) (I : Inv X pins σ H s) (g : DGet H a y o) (ry : RelV y u) (rd : RelV d r) (h : ∀ w' s', Inv X pins σ H s' → RelV (o.getD d) w' → Q w' s') :
    wpAny (model X.prog X.w) A (call (.builtin "dict.get") [.ref a, u, r]) Q E s := by
  rcases g with ⟨kvs, k, e, ey, l⟩ | ⟨kvs, k, b, e, ey, eb, l⟩
  · subst ey
    obtain ⟨z, hd, vs, rel, dd⟩ := dk_rd I.hok e
    refine call_meetsIn PySem.F.slot_dict_get dd.typeIs PySem.F.entry_dict_get (PySem.F.args_dict_get_3 _ _ _) (meets_dict_get_default (mixKind X.prog X.w) a (kV_is ry) hd r) ⟨_, dd.mapOf, h _ _ (I.tok _) ?_⟩
    rw [l]
    exact (rel.val k).getD rd
  · subst ey
    cases (show u = Value.ref b from ry)
    obtain ⟨z, hd, xs, rel, dd⟩ := dt_rd I.hok e
    refine call_meetsIn PySem.F.slot_dict_get dd.typeIs PySem.F.entry_dict_get (PySem.F.args_dict_get_3 _ _ _) (meetsH_dict_get_default (tupleKind (mixKind X.prog X.w)) a b hd r) ⟨tupleKind_room_in1 hu, k, xs, key_of I.hok eb, dd, h _ _ (I.tok _) ?_⟩
    rw [l]
    exact (rel.val k).getD rd
end
def tDGet2 (td ty tx : TE) : TE := fun σ H Q => td σ H fun x H1 => ∃ a, x = .ref a ∧ IsD H1 a ∧ ty σ H1 fun y H2 => tx σ H2 fun z H3 => ∃ o, DGet H3 a y o ∧ Q (o.getD z) H3
section
variable {X : Cx} {o e f : Expr} {apos cpos : Pos} {td ty tx : TE}
theorem pe_dget2 (hu : X.A.units + 1 < cLine) (ho : PE X o td) (he : PE X e ty) (hf : PE X f tx) (m : M2 X o "get" apos e f cpos) : PE X (.Call (.Attribute o "get" apos) [e, f] [] cpos) (tDGet2 td ty tx) := by
  intro pins s σ H Q I h
  refine wpAny_Call_method m.base m.few m.line PySem.F.plainAttrs_dict PySem.F.slot_dict_get PySem.F.type_dict_get (thn (ho pins s σ H _ I h) fun u s1 ⟨x, H1, I1, rx, a, ex, d, q1⟩ => ?_)
  subst ex
  obtain rfl : u = Value.ref a := rx
  obtain ⟨t1, t2, _⟩ := isD_at I1 d
  refine ⟨t1, t2, ?_⟩
  rw [m.trees]
  refine Calls.callWith_builtin rfl (Calls.evalArgs_plain (Calls.spliced_cons (thn (he pins s1 σ H1 _ I1 q1) fun iv s2 ⟨y, H2, I2, ry, q2⟩ =>
    Calls.spliced_cons (thn (hf pins s2 σ H2 _ I2 q2) fun fv s3 ⟨z, H3, I3, rz, ov, g, q3⟩ => Calls.spliced_nil ?_))))
  exact d_get2 hu I3 g ry rz fun w' s4 I4 rw' => ⟨_, H3, I4, rw', q3⟩
end
section
variable {X : Cx} {pins : List (Addr × Obj)} {σ : St} {H : Hp} {s : Shared} {a : Addr} {kvs : List (Key × V)} {A : Around} {E : Value → Shared → Prop}
end
section
variable {X : Cx} {pins : List (Addr × Obj)} {σ : St} {H : Hp} {s : Shared} {a : Addr} {y : V} {u : Value} {A : Around} {E : Value → Shared → Prop}
end
end L2
namespace HT
open PySem PyProof.Rows
section
open PySem.SeqAt
open PySem.AutoSeq1 (wpAny_loadPart')
open PySem.MeetsSeq PySem.MeetsSeq2 PySem.MeetsSeq3
end
section
variable {prog : Program} {w : World} {A : Around} {E : Value → Shared → Prop} {s : Shared}
def sIx (n d : Nat) : Option Int → Nat
  | none => d
  | some v => if v < 0 then (v + (n : Int)).toNat else min v.toNat n
theorem sIx_none (n d : Nat) : sIx n d none = d := rfl
end
end HT
namespace L2
open PySem PySem.Spec PyProof.Rows
abbrev TO := St → Hp → (Option Int → Hp → Prop) → Prop
def PO (X : Cx) (e : Option Expr) (t : TO) : Prop :=
  ∀ (pins : List (Addr × Obj)) (s : Shared) (σ : St) (H : Hp) (Q : Option Int → Hp → Prop), Inv X pins σ H s → t σ H Q →
    wpAny (model X.prog X.w) X.A (evalPart e X.env) (fun u s' => ∃ o H', Inv X pins σ H' s' ∧ IsPart u o ∧ Q o H') X.xe s
def tNoPart : TO := fun _ H Q => Q none H
def tPart (t : TE) : TO := fun σ H Q => t σ H fun x H1 => ∃ i, x = .int i ∧ Q (some i) H1
section
variable {X : Cx} {e : Expr} {te : TE} {lo hi : Option Expr} {tl th : TO} {pos p2 : Pos}
theorem po_none : PO X none tNoPart := by
  intro pins s σ H Q I h
  rw [evalPart_none]
  exact wpAny_pure ⟨none, H, I, .none, h⟩
theorem po_some (h : PE X e te) : PO X (some e) (tPart te) := by
  intro pins s σ H Q I hw
  rw [evalPart_some]
  refine thn (h pins s σ H _ I hw) fun u s1 ⟨x, H1, I1, r1, q1⟩ => ?_
  obtain ⟨i, rfl, q⟩ := q1
  obtain ⟨t, rfl⟩ := r1
  exact ⟨some i, H1, I1, .int i t, q⟩
def SlR (X : Cx) (r : V → Option Int → Option Int → Hp → VK → Prop) : Prop :=
  ∀ (pins : List (Addr × Obj)) (s : Shared) (σ : St) (H : Hp) (x : V) (v vl vu : Value) (lo hi : Option Int) (sl : Addr) (Q : VK), Inv X pins σ H s → RelV x v → s.heap.IsSliceOf sl vl vu .none → IsPart vl lo → IsPart vu hi → r x lo hi H Q →
    ∃ T id, typeLookup (.type T) "__getitem__" = pure (some (.builtin id)) ∧ s.TypeIs v T ∧ wpAny (model X.prog X.w) X.A (getItem v (.ref sl)) (EP X pins σ Q) X.xe s
theorem SlR.or {r r' : V → Option Int → Option Int → Hp → VK → Prop} (h : SlR X r) (h' : SlR X r') : SlR X (fun x lo hi H Q => r x lo hi H Q ∨ r' x lo hi H Q) := by
  intro pins s σ H x v vl vu lo hi sl Q I rx hs pl pu q
  rcases q with q | q
  · exact h pins s σ H x v vl vu lo hi sl Q I rx hs pl pu q
  · exact h' pins s σ H x v vl vu lo hi sl Q I rx hs pl pu q
def tSl (r : V → Option Int → Option Int → Hp → VK → Prop) (te : TE) (tl th : TO) : TE := fun σ H Q => te σ H fun x H1 => tl σ H1 fun l H2 => th σ H2 fun u H3 => r x l u H3 Q
theorem pe_slice {r : V → Option Int → Option Int → Hp → VK → Prop} (hr : SlR X r) (he : PE X e te) (hl : PO X lo tl) (hu : PO X hi th) : PE X (.Subscript e (.Slice lo hi none p2) pos) (tSl r te tl th) := by
  intro pins s σ H Q I h
  refine Subscript_ (thn (he pins s σ H _ I h) fun v s1 ⟨x, H1, I1, r1, q1⟩ => ?_)
  refine wpAny_Slice (thn (hl pins s1 σ H1 _ I1 q1) fun vl s2 ⟨l, H2, I2, pl, q2⟩ => thn (hu pins s2 σ H2 _ I2 q2) fun vu s3 ⟨u, H3, I3, pu, q3⟩ => ?_)
  rw [evalPart_none]
  refine wpAny_pure ?_
  have I4 : Inv X pins σ H3 { s3 with heap := s3.heap.push { cls := .type "slice", data := .fields #[vl, vu, .none] } } := I3.kept (t' := s3.toks) fun b ob q => Heap.get?_push_of_some _ q
  obtain ⟨T, id, hT, ht, hg⟩ := hr pins { s3 with heap := s3.heap.push { cls := .type "slice", data := .fields #[vl, vu, .none] } } σ H3 x v vl vu l u s3.heap.objs.size Q I4 r1 (Heap.IsSliceOf.new ..) pl pu q3
  show wpAny (model X.prog X.w) X.A (subscriptTail e (.Slice lo hi none p2) v (.ref s3.heap.objs.size)) (EP X pins σ Q) X.xe { s3 with heap := s3.heap.push { cls := .type "slice", data := .fields #[vl, vu, .none] } }
  exact tail_any (ops := [.ref s3.heap.objs.size, v]) ht hT hg (by with_unfolding_all rfl)
def cutV (xs : List V) (lo hi : Option Int) : List V := (xs.drop (HT.sIx xs.length 0 lo)).take (HT.sIx xs.length xs.length hi - HT.sIx xs.length 0 lo)
theorem cutV_length (xs : List V) (lo hi : Option Int) : (cutV xs lo hi).length ≤ xs.length := by
  unfold cutV
  rw [List.length_take, List.length_drop]
  omega
end
end L2
namespace L2
open PySem PySem.Spec PyProof.Rows
def ixN (n : Nat) (i : Int) : Option Nat := if 0 ≤ i then (if i < n then some i.toNat else none) else if -(n : Int) ≤ i then some (i + n).toNat else none
def atI {α : Type} (xs : List α) (i : Int) : Option α := (ixN xs.length i).bind fun j => xs[j]?
theorem ixN_seq {n : Nat} {i : Int} {j : Nat} (h : ixN n i = some j) : seqIndex? i n = some j ∧ j < n ∧ -(n : Int) ≤ i ∧ i < n := by
  unfold ixN at h
  by_cases h0 : 0 ≤ i
  · rw [if_pos h0] at h
    by_cases h1 : i < n
    · rw [if_pos h1] at h
      have e : i.toNat = j := Option.some.inj h
      exact ⟨by rw [seqIndex_of h0 h1, e], by omega, by omega, h1⟩
    · rw [if_neg h1] at h; cases h
  · rw [if_neg h0] at h
    by_cases h1 : -(n : Int) ≤ i
    · rw [if_pos h1] at h
      have e : (i + n).toNat = j := Option.some.inj h
      exact ⟨by rw [seqIndex_neg (by omega) h1, e], by omega, h1, by omega⟩
    · rw [if_neg h1] at h; cases h
theorem atI_get {α : Type} {xs : List α} {i : Int} {v : α} (h : atI xs i = some v) : ∃ j, seqIndex? i xs.length = some j ∧ xs[j]? = some v ∧ j < xs.length ∧ -(xs.length : Int) ≤ i ∧ i < xs.length := by
  unfold atI at h
  cases e : ixN xs.length i with
  | none => rw [e] at h; cases h
  | some j =>
    rw [e] at h
    obtain ⟨h1, h2, h3, h4⟩ := ixN_seq e
    exact ⟨j, h1, h, h2, h3, h4⟩
theorem atI_nat {α : Type} {xs : List α} {j : Nat} {v : α} (h : xs[j]? = some v) : atI xs (j : Int) = some v := by
  have hj : j < xs.length := (List.getElem?_eq_some_iff.mp h).1
  have e : ixN xs.length (j : Int) = some j := by
    unfold ixN
    rw [if_pos (by omega), if_pos (by omega)]; simp
  unfold atI; rw [e]; exact h
def PlainIx (b : Expr) : Prop := ∀ o i, subscripted b false o i = operate [o, i] (getItem o i)
def IxR (X : Cx) (r : R2) : Prop :=
  ∀ (value slice : Expr) (pins : List (Addr × Obj)) (s : Shared) (σ : St) (H : Hp) (x y : V) (v u : Value) (Q : VK), Inv X pins σ H s → RelV x v → RelV y u → r x y H Q →
    subscripted slice false v u = operate [v, u] (getItem v u) → wpAny (model X.prog X.w) X.A (subscriptTail value slice v u) (EP X pins σ Q) X.xe s
def MtR (X : Cx) (id : String) (r : V → List V → Hp → VK → Prop) : Prop :=
  ∀ (pins : List (Addr × Obj)) (s : Shared) (σ : St) (H : Hp) (x : V) (xs : List V) (v : Value) (us : List Value) (Q : VK), Inv X pins σ H s → RelV x v → Vals xs us → r x xs H Q →
    wpAny (model X.prog X.w) X.A (call (.builtin id) (v :: us)) (EP X pins σ Q) X.xe s
section
variable {X : Cx} {a b : Expr} {ta tb : TE} {pos : Pos}
theorem IxR.or {r r' : R2} (h : IxR X r) (h' : IxR X r') : IxR X (fun x y H Q => r x y H Q ∨ r' x y H Q) := by
  intro value slice pins s σ H x y v u Q I rx ry q hs
  rcases q with q | q
  · exact h value slice pins s σ H x y v u Q I rx ry q hs
  · exact h' value slice pins s σ H x y v u Q I rx ry q hs
theorem MtR.or {id : String} {r r' : V → List V → Hp → VK → Prop} (h : MtR X id r) (h' : MtR X id r') : MtR X id (fun x xs H Q => r x xs H Q ∨ r' x xs H Q) := by
  intro pins s σ H x xs v us Q I rx rs q
  rcases q with q | q
  · exact h pins s σ H x xs v us Q I rx rs q
  · exact h' pins s σ H x xs v us Q I rx rs q
theorem pe_ix {r : R2} (hr : IxR X r) (ha : PE X a ta) (hb : PE X b tb) (hs : PlainIx b) : PE X (.Subscript a b pos) (tOp r ta tb) := by
  intro pins s σ H Q I h
  exact Subscript_ (binT ha hb I h fun v u s2 x y H2 I2 rx ry q => hr a b pins s2 σ H2 x y v u Q I2 rx ry q (hs _ _))
def rIxL (K : PySem.W.Frag) : R2 := fun x y H Q => ∃ p xs i v, x = .ref p ∧ y = .int i ∧ SqL K H p xs ∧ atI xs i = some v ∧ Q v H
def rIxT (K : PySem.W.Frag) : R2 := fun x y H Q => ∃ p xs i v, x = .ref p ∧ y = .int i ∧ SqT K H p xs ∧ atI xs i = some v ∧ Q v H
theorem ix_list : IxR X (rIxL X.K) := by
  intro value slice pins s σ H x y v u Q I rx ry h hs
  obtain ⟨p, xs, i, z, rfl, rfl, hq, he, q⟩ := h
  cases rx
  obtain ⟨t, rfl⟩ := ry
  obtain ⟨its, r, pl, hz⟩ := I.list hq
  obtain ⟨j, h1, h2, h3, h4, h5⟩ := atI_get he
  obtain ⟨w, ew, rw'⟩ := r.get h2
  have hl := r.length
  have hn := line63
  have fin : EP X pins σ Q w s := ⟨z, H, I, rw', q⟩
  by_cases h0 : 0 ≤ i
  · have hj : i.toNat = j := by
      rw [seqIndex_of h0 h5] at h1
      exact Option.some.inj h1
    exact item_listR pl.isList h0 (by omega) (by rw [hj]; simpa using ew) fin hs
  · have hj : (i + (its.toArray.size : Int)).toNat = j := by
      rw [seqIndex_neg (by omega) h4] at h1
      rw [List.size_toArray, ← hl]
      exact Option.some.inj h1
    exact subscriptTail_builtinR (x := w) pl.isList.typeIs slot_list_getitem.lookup
      (wpAny_getItem_list_neg (Q := fun r s' => r = w ∧ EP X pins σ Q r s') pl.isList (by omega) (by rw [List.size_toArray] <;> omega) (by omega) (by rw [hj]; simpa using ew) ⟨rfl, fin⟩) hs
theorem ix_tup : IxR X (rIxT X.K) := by
  intro value slice pins s σ H x y v u Q I rx ry h hs
  obtain ⟨p, xs, i, z, rfl, rfl, hq, he, q⟩ := h
  cases rx
  obtain ⟨t, rfl⟩ := ry
  obtain ⟨its, r, pl, hz⟩ := I.tuple hq
  obtain ⟨j, h1, h2, h3, h4, h5⟩ := atI_get he
  obtain ⟨w, ew, rw'⟩ := r.get h2
  have hl := r.length
  have hn := line63
  have fin : EP X pins σ Q w s := ⟨z, H, I, rw', q⟩
  exact subscriptTail_builtinR (x := w) pl.typeIs slot_tuple_getitem.lookup
    (getItem_tuple (j := j) (Q := fun r s' => r = w ∧ EP X pins σ Q r s') pl (by omega) (by omega) (by rw [List.size_toArray, ← hl]; exact h1) (by simpa using ew) ⟨rfl, fin⟩) hs
theorem mapSeq_set (its : List Value) (n j : Nat) (u : Value) : Obj.mapSeq (·.setIfInBounds j u) { cls := .type "list", data := .seq its.toArray n } = { cls := .type "list", data := .seq (its.set j u).toArray n } := by
  simp [Obj.mapSeq]
theorem Inv.lst {pins : List (Addr × Obj)} {σ : St} {H : Hp} {s : Shared} {p : Addr} {xs : List V} (I : Inv X pins σ H s) (h : H p = some (.lst xs)) :
    ∃ (its : List Value) (n : Nat), Vals xs its ∧ s.heap.get? p = some { cls := .type "list", data := .seq its.toArray n } ∧ xs.length ≤ sizeLine := by
  obtain ⟨z, its, n, r, e⟩ := I.hok p _ h
  exact ⟨its, n, r, e, z⟩
theorem Inv.lstUpd {pins : List (Addr × Obj)} {σ : St} {H : Hp} {s : Shared} {p : Addr} {xs ys : List V} {its its' : List Value} {n n' : Nat} {f : Obj → Obj} (I : Inv X pins σ H s) (h : H p = some (.lst xs))
    (ho : s.heap.get? p = some { cls := .type "list", data := .seq its.toArray n }) (hf : f { cls := .type "list", data := .seq its.toArray n } = { cls := .type "list", data := .seq its'.toArray n' }) (r : Vals ys its') (hz : ys.length ≤ sizeLine) (t : Nat) :
    Inv X pins σ (upd H p (.lst ys)) { s with heap := s.heap.update p f, toks := t } := by
  have e : (s.heap.update p f).get? p = some { cls := .type "list", data := .seq its'.toArray n' } := by
    rw [Heap.get?_update_self f ho (by rw [hf] <;> rfl), hf]
  refine I.write (x := p) (e := p) (by rw [h]; trivial) (.inl rfl) (fun b u hb q => (Heap.get?_update_other _ _ (Ne.symm hb)).trans q) ⟨_, e⟩ ?_
  exact ⟨hz, its', n', r, e⟩
def rSetL : V → V → V → Hp → (Hp → Prop) → Prop := fun o i v H Q => ∃ p xs k j, o = .ref p ∧ i = .int k ∧ H p = some (.lst xs) ∧ ixN xs.length k = some j ∧ Q (upd H p (.lst (xs.set j v)))
theorem set_list : PSet X rSetL := by
  intro pins s σ H o i v ov iv u Q I ro ri rv h
  obtain ⟨p, xs, k, j, rfl, rfl, hp, hj, q⟩ := h
  cases ro
  obtain ⟨t, rfl⟩ := ri
  obtain ⟨its, n, r, ho, hz⟩ := I.lst hp
  obtain ⟨h1, h2, h3, h4⟩ := ixN_seq hj
  have hl := r.length
  have hn := line63
  have I' : Inv X pins σ (upd H p (.lst (xs.set j v))) { s with heap := s.heap.update p (Obj.mapSeq (·.setIfInBounds j u)) } :=
    I.lstUpd hp ho (mapSeq_set its n j u) (r.set rv j) (by rw [List.length_set]; exact hz) s.toks
  by_cases h0 : 0 ≤ k
  · have hk : k.toNat = j := by
      rw [seqIndex_of h0 h4] at h1
      exact Option.some.inj h1
    exact PySem.W.ki_setAt ho h0 (by omega) (by rw [List.size_toArray, ← hl]; exact h4) (by rw [hk]; exact ⟨_, I', q⟩)
  · have hk : (k + (its.toArray.size : Int)).toNat = j := by
      rw [seqIndex_neg (by omega) h3] at h1
      rw [List.size_toArray, ← hl]
      exact Option.some.inj h1
    exact PySem.W.ki_setBack ho (by omega) (by rw [List.size_toArray, ← hl]; exact h3) (by omega) (by rw [hk]; exact ⟨_, I', q⟩)
theorem slice_bounds (lo hi : Option Int) (n : Nat) : (sliceBounds lo hi none n).1 = ((HT.sIx n 0 lo : Nat) : Int) ∧ (sliceBounds lo hi none n).2.1 = ((HT.sIx n n hi : Nat) : Int) ∧ (sliceBounds lo hi none n).2.2 = 1 := by
  refine ⟨?_, ?_, rfl⟩
  · cases lo with
    | none => simp [sliceBounds, HT.sIx]
    | some i =>
      simp only [sliceBounds, HT.sIx, Option.getD_none, show (1 : Int) > 0 by decide, if_true]
      by_cases h : i < 0
      · simp only [h, if_true] <;> omega
      · simp only [h, if_false] <;> omega
  · cases hi with
    | none => simp [sliceBounds, HT.sIx]
    | some i =>
      simp only [sliceBounds, HT.sIx, Option.getD_none, show (1 : Int) > 0 by decide, if_true]
      by_cases h : i < 0
      · simp only [h, if_true] <;> omega
      · simp only [h, if_false] <;> omega
theorem slicePick_cut (its : List Value) (lo hi : Option Int) : slicePick its.toArray lo hi none = ((its.drop (HT.sIx its.length 0 lo)).take (HT.sIx its.length its.length hi - HT.sIx its.length 0 lo)).toArray := by
  obtain ⟨h1, h2, h3⟩ := slice_bounds lo hi its.toArray.size
  unfold slicePick
  rw [h1, h2, h3]
  simp only [sliceRange_one, pick_run, List.size_toArray] <;> rfl
def rSlL (K : PySem.W.Frag) : V → Option Int → Option Int → Hp → VK → Prop := fun x lo hi H Q => ∃ a xs, x = .ref a ∧ SqL K H a xs ∧ ∀ p, H p = none → Q (.ref p) (upd H p (.lst (cutV xs lo hi)))
theorem sl_list : SlR X (rSlL X.K) := by
  intro pins s σ H x v vl vu lo hi sl Q I rx hs pl pu h
  obtain ⟨a, xs, rfl, hx, q⟩ := h
  cases rx
  obtain ⟨its, r, ht, hz⟩ := I.list hx
  have hlen := r.length
  refine ⟨"list", _, slot_list_getitem.lookup, ht.isList.typeIs, ?_⟩
  refine wpAny_getItem_list_slice ht.isList hs pl pu .none (by simp) ?_ (by rw [List.size_toArray] <;> omega)
  rw [slicePick_cut, ← hlen]
  refine ⟨.ref s.heap.objs.size, _, I.laid (t' := s.toks) (o := .lst (cutV xs lo hi)) (fun b ob q => Heap.get?_push_of_some _ q) (Nat.le_refl _) ?_, rfl, q _ (I.hok.fresh (Nat.le_refl _))⟩
  exact ⟨Nat.le_trans (cutV_length xs lo hi) hz, _, 0, (r.drop (HT.sIx xs.length 0 lo)).take (HT.sIx xs.length xs.length hi - HT.sIx xs.length 0 lo), Heap.get?_push_size _ rfl⟩
def flatV : V → Bool
  | .non => true
  | .bl _ => true
  | .int _ => true
  | .str _ => true
  | _ => false
def eqV : V → V → Bool
  | .non, .non => true
  | .bl a, .bl b => a == b
  | .bl a, .int b => (if a then 1 else 0) == b
  | .int a, .bl b => a == (if b then 1 else 0)
  | .int a, .int b => a == b
  | .str a, .str b => a == b
  | _, _ => false
theorem eqAt_V {A : Around} {s : Shared} {y x : V} {u v : Value} (ry : RelV y u) (rx : RelV x v) (fy : flatV y = true) (fx : flatV x = true) : SeqAt.EqAt A s u v (eqV y x) := by
  cases y with
  | non =>
    cases ry
    cases x with
    | non => cases rx; exact SeqAt.EqAt.same _
    | bl b => cases rx; exact SeqAt.EqAt.none_bool b
    | int b => obtain ⟨t, rfl⟩ := rx; exact SeqAt.EqAt.none_int b t
    | str b => obtain ⟨t, rfl⟩ := rx; exact SeqAt.EqAt.none_str b t
    | _ => exact absurd (show false = true from fx) Bool.false_ne_true
  | bl a =>
    cases ry
    cases x with
    | non => cases rx; exact SeqAt.EqAt.bool_none a
    | bl b => cases rx; exact SeqAt.EqAt.bool_bool a b
    | int b => obtain ⟨t, rfl⟩ := rx; exact SeqAt.EqAt.bool_int a b t
    | str b => obtain ⟨t, rfl⟩ := rx; exact SeqAt.EqAt.bool_str a b t
    | _ => exact absurd (show false = true from fx) Bool.false_ne_true
  | int a =>
    obtain ⟨t', rfl⟩ := ry
    cases x with
    | non => cases rx; exact SeqAt.EqAt.int_none a t'
    | bl b => cases rx; exact SeqAt.EqAt.int_bool a t' b
    | int b => obtain ⟨t, rfl⟩ := rx; exact SeqAt.EqAt.int_int a t' b t
    | str b => obtain ⟨t, rfl⟩ := rx; exact SeqAt.EqAt.int_str a t' b t
    | _ => exact absurd (show false = true from fx) Bool.false_ne_true
  | str a =>
    obtain ⟨t', rfl⟩ := ry
    cases x with
    | non => cases rx; exact SeqAt.EqAt.str_none a t'
    | bl b => cases rx; exact SeqAt.EqAt.str_bool a t' b
    | int b => obtain ⟨t, rfl⟩ := rx; exact SeqAt.EqAt.str_int a t' b t
    | str b => obtain ⟨t, rfl⟩ := rx; exact SeqAt.EqAt.str_str a t' b t
    | _ => exact absurd (show false = true from fx) Bool.false_ne_true
  | _ => exact absurd (show false = true from fy) Bool.false_ne_true
def eqU (x : V) (u : Value) : Bool := match u with
  | .none => eqV .non x
  | .bool b => eqV (.bl b) x
  | .int i _ => eqV (.int i) x
  | .str z _ => eqV (.str z) x
  | _ => false
theorem eqU_of {x y : V} {u : Value} (r : RelV y u) (f : flatV y = true) : eqU x u = eqV y x := by
  cases y with
  | non => cases r; rfl
  | bl b => cases r; rfl
  | int i => obtain ⟨t, rfl⟩ := r; rfl
  | str z => obtain ⟨t, rfl⟩ := r; rfl
  | _ => exact absurd (show false = true from f) Bool.false_ne_true
theorem any_eqU {x : V} : ∀ {xs : List V} {us : List Value}, Vals xs us → xs.all flatV = true → us.any (eqU x) = xs.any fun y => eqV y x
  | _, _, .nil, _ => rfl
  | y :: xs, u :: us, .cons r t, f => by
    rw [List.all_cons, Bool.and_eq_true] at f
    rw [List.any_cons, List.any_cons, eqU_of r f.1, any_eqU t f.2]
theorem mem_eqAt {A : Around} {s : Shared} {x : V} {v : Value} (rx : RelV x v) (fx : flatV x = true) : ∀ {xs : List V} {us : List Value}, Vals xs us → xs.all flatV = true → ∀ u ∈ us, SeqAt.EqAt A s u v (eqU x u)
  | _, _, .nil, _ => fun u hu => by cases hu
  | y :: xs, u :: us, .cons r t, f => fun u' hu => by
    rw [List.all_cons, Bool.and_eq_true] at f
    rcases List.mem_cons.mp hu with rfl | hu
    · rw [eqU_of r f.1]; exact eqAt_V r rx f.1 fx
    · exact mem_eqAt rx fx t f.2 u' hu
def inV (x : V) (xs : List V) : Bool := xs.any fun y => eqV y x
def rIn (K : PySem.W.Frag) (neg : Bool) : R2 := fun x y H Q => ∃ p xs, y = .ref p ∧ (SqL K H p xs ∨ SqT K H p xs) ∧ flatV x = true ∧ xs.all flatV = true ∧ Q (.bl (if neg then !inV x xs else inV x xs)) H
theorem op_in_seq : OpR X (compareOp .In) (rIn X.K false) := by
  intro pins s σ H x y v u Q I rx ry h
  obtain ⟨p, xs, rfl, hq, fx, fs, q⟩ := h
  cases ry
  rcases hq with hq | hq
  · obtain ⟨its, r, pl, hz⟩ := I.list hq
    refine SeqAt.in_listAt (eqU x) pl.isList (fun w hw => mem_eqAt rx fx r fs w (by simpa using hw)) ⟨.bl _, H, I, rfl, ?_⟩
    rw [show its.toArray.any (eqU x) = its.any (eqU x) by simp, any_eqU r fs]
    exact q
  · obtain ⟨its, r, pl, hz⟩ := I.tuple hq
    refine SeqAt.in_tupleAt (eqU x) pl (fun w hw => mem_eqAt rx fx r fs w (by simpa using hw)) ⟨.bl _, H, I, rfl, ?_⟩
    rw [show its.toArray.any (eqU x) = its.any (eqU x) by simp, any_eqU r fs]
    exact q
theorem op_notIn_seq : OpR X (compareOp .NotIn) (rIn X.K true) := by
  intro pins s σ H x y v u Q I rx ry h
  obtain ⟨p, xs, rfl, hq, fx, fs, q⟩ := h
  cases ry
  rcases hq with hq | hq
  · obtain ⟨its, r, pl, hz⟩ := I.list hq
    refine SeqAt.notIn_listAt (eqU x) pl.isList (fun w hw => mem_eqAt rx fx r fs w (by simpa using hw)) ⟨.bl _, H, I, rfl, ?_⟩
    rw [show its.toArray.any (eqU x) = its.any (eqU x) by simp, any_eqU r fs]
    exact q
  · obtain ⟨its, r, pl, hz⟩ := I.tuple hq
    refine SeqAt.notIn_tupleAt (eqU x) pl (fun w hw => mem_eqAt rx fx r fs w (by simpa using hw)) ⟨.bl _, H, I, rfl, ?_⟩
    rw [show its.toArray.any (eqU x) = its.any (eqU x) by simp, any_eqU r fs]
    exact q
theorem call_len_seq : CallR X (.builtin "len") (fun xs H Q => ∃ p ys, xs = [.ref p] ∧ (SqL X.K H p ys ∨ SqT X.K H p ys) ∧ Q (.int ys.length) H) := by
  intro pins s σ H xs us Q I r h
  obtain ⟨p, ys, rfl, hq, q⟩ := h
  obtain ⟨u, rfl, rx⟩ := vals1 r
  cases rx
  have hn := line63
  rcases hq with hq | hq
  · obtain ⟨its, r', pl, hz⟩ := I.list hq
    have hlen := r'.length
    exact Calls.call_len_list pl.isList (by simp only [List.size_toArray] <;> omega) ⟨.int ys.length, H, I.tok _, ⟨s.toks + 1, by rw [List.size_toArray, hlen]⟩, q⟩
  · obtain ⟨its, r', pl, hz⟩ := I.tuple hq
    have hlen := r'.length
    exact len_tuple pl (by simp only [List.size_toArray] <;> omega) ⟨.int ys.length, H, I.tok _, ⟨s.toks + 1, by rw [List.size_toArray, hlen]⟩, q⟩
theorem CallR.or {f : Value} {r r' : List V → Hp → VK → Prop} (h : CallR X f r) (h' : CallR X f r') : CallR X f (fun xs H Q => r xs H Q ∨ r' xs H Q) := by
  intro pins s σ H xs us Q I rs q
  rcases q with q | q
  · exact h pins s σ H xs us Q I rs q
  · exact h' pins s σ H xs us Q I rs q
theorem call_list_of : CallR X (.type "list") (fun xs H Q => ∃ p ys, xs = [.ref p] ∧ (SqL X.K H p ys ∨ SqT X.K H p ys) ∧ ∀ l, H l = none → Q (.ref l) (upd H l (.lst ys))) := by
  intro pins s σ H xs us Q I r h
  obtain ⟨p, ys, rfl, hq, q⟩ := h
  obtain ⟨u, rfl, rx⟩ := vals1 r
  cases rx
  have fin : ∀ (its : List Value), Vals ys its → ys.length ≤ sizeLine → ∀ (h' : Heap) (c' : Nat), (∀ b o', s.heap.get? b = some o' → h'.get? b = some o') →
      h'.get? s.heap.objs.size = some { cls := .type "list", dict := none, data := .seq its.toArray c', slots := #[] } → EP X pins σ Q (.ref s.heap.objs.size) { s with heap := h' } := fun its r' hz h' c' kp e =>
    ⟨.ref s.heap.objs.size, _, I.laid (t' := s.toks) kp (Nat.le_refl _) (show ObjOk X.prog X.w _ h' _ (.lst ys) from ⟨hz, its, c', r', e⟩), rfl, q _ (I.hok.fresh (Nat.le_refl _))⟩
  rcases hq with hq | hq
  · obtain ⟨its, r', pl, hz⟩ := I.list hq
    have hlen := r'.length
    obtain ⟨o, ho, hc, n, hd⟩ := pl.isList
    exact call_list_seq p (.inl rfl) ho hc hd (fun h' c' kp e => fin its r' hz h' c' kp e) (by simp only [List.size_toArray] <;> omega)
  · obtain ⟨its, r', pl, hz⟩ := I.tuple hq
    have hlen := r'.length
    obtain ⟨o, ho, hc, n, hd⟩ := pl
    exact call_list_seq p (.inr rfl) ho hc hd (fun h' c' kp e => fin its r' hz h' c' kp e) (by simp only [List.size_toArray] <;> omega)
theorem call_tuple_of : CallR X (.type "tuple") (fun xs H Q => ∃ p ys, xs = [.ref p] ∧ ((SqL X.K H p ys ∧ ∀ l, H l = none → Q (.ref l) (upd H l (.tup ys))) ∨ (SqT X.K H p ys ∧ Q (.ref p) H))) := by
  intro pins s σ H xs us Q I r h
  obtain ⟨p, ys, rfl, h⟩ := h
  obtain ⟨u, rfl, rx⟩ := vals1 r
  cases rx
  rcases h with ⟨hq, q⟩ | ⟨hq, q⟩
  · obtain ⟨its, r', pl, hz⟩ := I.list hq
    have hlen := r'.length
    refine call_tuple_list pl.isList (fun h' kp => ?_) (by simp only [List.size_toArray] <;> omega)
    have I1 : Inv X pins σ H { s with heap := h' } := I.kept (t' := s.toks) kp
    have I2 : Inv X pins σ (upd H h'.objs.size (.tup ys)) { s with heap := h'.push { cls := .type "tuple", data := .seq its.toArray } } :=
      I1.laid (t' := s.toks) (fun b o e => Heap.get?_push_of_some _ e) (Nat.le_refl _) (show ObjOk X.prog X.w _ _ _ (.tup ys) from ⟨hz, its, r', IsTup.new _ _⟩)
    exact ⟨.ref h'.objs.size, _, I2, rfl, q _ (I1.hok.fresh (Nat.le_refl _))⟩
  · obtain ⟨its, r', pl, hz⟩ := I.tuple hq
    exact call_tuple_same pl ⟨.ref p, H, I, rfl, q⟩
def tyV (K : PySem.W.Frag) (T : String) (x : V) (H : Hp) : Prop := match x with
  | .str _ => T = "str"
  | .int _ => T = "int"
  | .ref p => (T = "list" ∧ ∃ xs, SqL K H p xs) ∨ (T = "tuple" ∧ ∃ o, K.lookup p = some o ∧ o.cls = .type "tuple" ∧ o.dict = none) ∨
      (T = "dict" ∧ ((∃ kvs, H p = some (.dK kvs)) ∨ ∃ kvs, H p = some (.dT kvs))) ∨ (T = "set" ∧ ∃ S n, H p = some (.set S n))
  | _ => False
theorem tyV_is {pins : List (Addr × Obj)} {σ : St} {H : Hp} {s : Shared} {T : String} {x : V} {v : Value} (I : Inv X pins σ H s) (r : RelV x v) (ty : tyV X.K T x H) :
    s.TypeIs v T ∧ ∀ a, v = .ref a → ∃ ob, s.heap.get? a = some ob ∧ ob.dict = none := by
  cases x with
  | str z =>
    obtain ⟨t, rfl⟩ := r
    cases (show T = "str" from ty)
    exact ⟨typeIs_str s z t, fun _ e => nomatch e⟩
  | int i =>
    obtain ⟨t, rfl⟩ := r
    cases (show T = "int" from ty)
    exact ⟨typeIs_int s i t, fun _ e => nomatch e⟩
  | ref p =>
    cases r
    rcases ty with ⟨rfl, xs, hq⟩ | ⟨rfl, o, hk, hc, hd⟩ | ⟨rfl, hk⟩ | ⟨rfl, S, n, hk⟩
    · obtain ⟨its, _, pl, _⟩ := I.list hq
      refine ⟨pl.isList.typeIs, fun a e => ?_⟩
      cases e
      obtain ⟨o, n, e, c, hd, _⟩ := pl
      exact ⟨o, e, hd⟩
    · refine ⟨⟨o, I.kIn p o hk, hc⟩, fun a e => ?_⟩
      cases e
      exact ⟨o, I.kIn _ o hk, hd⟩
    · have z : ∃ o, s.heap.get? p = some o ∧ o.ExactDict := by
        rcases hk with ⟨kvs, hk⟩ | ⟨kvs, hk⟩
        · obtain ⟨_, _, _, _, o, _, _, e, ex, _⟩ := I.hok p _ hk
          exact ⟨o, e, ex⟩
        · obtain ⟨_, _, _, _, o, _, _, e, ex, _⟩ := I.hok p _ hk
          exact ⟨o, e, ex⟩
      obtain ⟨o, e, ex⟩ := z
      refine ⟨⟨o, e, ex.1⟩, fun a e2 => ?_⟩
      cases e2
      exact ⟨o, e, ex.2.1⟩
    · obtain ⟨o, _, _, _, e, ex, _⟩ := I.hok p _ hk
      refine ⟨⟨o, e, ex.1⟩, fun a e2 => ?_⟩
      cases e2
      exact ⟨o, e, ex.2.1⟩
  | _ => exact False.elim ty
def tBM (K : PySem.W.Frag) (T : String) (r : V → List V → Hp → VK → Prop) (to : TE) (t : TA) : TE := fun σ H Q => to σ H fun x H1 => tyV K T x H1 ∧ t σ H1 fun xs H2 => r x xs H2 Q
variable {o e : Expr} {es : List Expr} {to : TE} {t : TA} {name : Str} {apos cpos : Pos} {T id : String} {r : V → List V → Hp → VK → Prop}
theorem pe_bm (pa : PlainAttrs T) (slot : Slot T name id) (hty : typeOf (.builtin id) = pure (.type "method_descriptor")) (hm : MtR X id r) (ho : PE X o to) (ha : PA X (e :: es) t)
    (hbase : attributeBase o name X.env (eval o X.env) = eval o X.env := by rfl)
    (hfew : ((backTo cpos (starEach (e :: es) X.env)).all (fun x => !x.1) && (backToKw cpos (keywordEach [] X.env)).all (fun x => x.1.isSome)
      && decide ((e :: es).length + ([] : List Keyword).length + (if ([] : List Keyword).isEmpty then 0 else 1) < 30)) = true := by rfl)
    (hline : (apos.endLine == cpos.line) = true := by rfl) (hs : starEach (e :: es) X.env = (false, eval e X.env) :: starEach es X.env := by rfl) (hplain : (backTo cpos (starEach es X.env)).any (·.1) = false := by rfl) :
    PE X (.Call (.Attribute o name apos) (e :: es) [] cpos) (tBM X.K T r to t) := by
  intro pins s σ H Q I h
  refine wpAny_Call_method_late hbase hfew hline rfl (thn (ho pins s σ H _ I h) fun v s1 ⟨x, H1, I1, r1, ty, q1⟩ => ?_)
  obtain ⟨h1, h2⟩ := tyV_is I1 r1 ty
  refine ⟨T, id, pa, slot, hty, h1, h2, ?_⟩
  have hA := ha cpos pins s1 σ H1 _ I1 q1
  rw [hs] at hA ⊢
  refine Calls.callWith_builtin (by show (false || (backTo cpos (starEach es X.env)).any (·.1)) = false; rw [hplain] <;> rfl) (Calls.evalArgs_plain ?_)
  exact thn hA fun us s2 ⟨vs, H2, I2, r2, q2⟩ => hm pins s2 σ H2 x vs v us Q I2 r1 r2 q2
end
end L2
namespace L2
open PySem PySem.Spec PyProof.Rows
def MtM (X : Cx) (id : String) (r : V → List V → Hp → VK → Prop) : Prop :=
  ∀ (pins : List (Addr × Obj)) (s : Shared) (σ : St) (H : Hp) (x : V) (xs : List V) (v : Value) (us : List Value) (Q : VK), Inv X pins σ H s → RelV x v → Vals xs us → r x xs H Q →
    wpAny (model X.prog X.w) X.A (call (.builtin id) (v :: us)) (EP X pins σ Q) X.xe s
theorem Vals.one : ∀ {x : V} {us : List Value}, Vals [x] us → ∃ u, us = [u] ∧ RelV x u
  | _, _, .cons r .nil => ⟨_, rfl, r⟩
theorem Vals.two : ∀ {x y : V} {us : List Value}, Vals [x, y] us → ∃ u v, us = [u, v] ∧ RelV x u ∧ RelV y v
  | _, _, _, .cons r (.cons q .nil) => ⟨_, _, rfl, r, q⟩
theorem Vals.zero : ∀ {us : List Value}, Vals [] us → us = []
  | _, .nil => rfl
theorem Vals.dropLast {xs : List V} {us : List Value} (h : Vals xs us) : Vals xs.dropLast us.dropLast := by
  induction h with
  | nil => exact .nil
  | cons r t ih =>
    cases t with
    | nil => exact .nil
    | cons q t' => exact .cons r ih
theorem Vals.eraseIdx : ∀ {xs : List V} {us : List Value} (i : Nat), Vals xs us → Vals (xs.eraseIdx i) (us.eraseIdx i)
  | _, _, _, .nil => .nil
  | _, _, 0, .cons _ t => t
  | _, _, i + 1, .cons r t => .cons r (Vals.eraseIdx i t)
theorem Vals.reverse {xs : List V} {us : List Value} (h : Vals xs us) : Vals xs.reverse us.reverse := by
  induction h with
  | nil => exact .nil
  | cons r t ih => rw [List.reverse_cons, List.reverse_cons]; exact Vals.append ih (.cons r .nil)
theorem Vals.rep {xs : List V} {us : List Value} (h : Vals xs us) : ∀ k : Nat, Vals (List.replicate k xs).flatten (List.replicate k us).flatten
  | 0 => .nil
  | k + 1 => by
    rw [List.replicate_succ, List.replicate_succ, List.flatten_cons, List.flatten_cons]
    exact Vals.append h (Vals.rep h k)
theorem foldl_rep (its : List Value) : ∀ (k : Nat) (acc : List Value),
    List.foldl (fun x1 x2 => x1 ++ x2) acc.toArray (List.replicate k its.toArray) = (acc ++ (List.replicate k its).flatten).toArray
  | 0, acc => by simp
  | k + 1, acc => by
    have e : acc.toArray ++ its.toArray = (acc ++ its).toArray := by simp
    have e2 : (acc ++ its) ++ (List.replicate k its).flatten = acc ++ (List.replicate (k + 1) its).flatten := by
      rw [List.replicate_succ, List.flatten_cons, List.append_assoc]
    rw [← e2, ← foldl_rep its k (acc ++ its), ← e, List.replicate_succ, List.foldl_cons]
section
variable {X : Cx} {pins : List (Addr × Obj)} {σ : St} {H : Hp} {s : Shared} {l b : Addr} {xs ys zs : List V}
theorem Inv.lset {its its' : List Value} {n : Nat} {f : Array Value → Array Value} {t' : Nat} (I : Inv X pins σ H s) (hH : H l = some (.lst xs))
    (e : s.heap.get? l = some { cls := .type "list", data := .seq its.toArray n }) (hf : f its.toArray = its'.toArray) (hv : Vals ys its') (hz : ys.length ≤ sizeLine) :
    Inv X pins σ (upd H l (.lst ys)) { s with heap := s.heap.update l (Obj.mapSeq f), toks := t' } := by
  have q := PySem.IsL.update e f
  rw [hf] at q
  refine I.write (x := l) (e := l) (by rw [hH]; exact trivial) (.inl rfl) (fun b' u hb hu => (Heap.get?_update_other s.heap (Obj.mapSeq f) (Ne.symm hb)).trans hu) ⟨_, q⟩ ?_
  exact ⟨hz, its', _, hv, q⟩
theorem Inv.lnew {its : List Value} {t' : Nat} (I : Inv X pins σ H s) (hv : Vals ys its) (hz : ys.length ≤ sizeLine) :
    Inv X pins σ (upd H s.heap.objs.size (.lst ys)) { s with heap := s.heap.push { cls := .type "list", data := .seq its.toArray }, toks := t' } :=
  I.laid (fun _ _ q => Heap.get?_push_of_some _ q) (Nat.le_refl _) ⟨hz, its, 0, hv, Heap.get?_push_size _ rfl⟩
theorem Inv.fresh (I : Inv X pins σ H s) : H s.heap.objs.size = none := I.hok.fresh (Nat.le_refl _)
theorem Inv.lstM (I : Inv X pins σ H s) (hH : H l = some (.lst xs)) : xs.length ≤ sizeLine ∧ ∃ (its : List Value) (n : Nat), Vals xs its ∧ xs.length = its.length ∧ s.heap.get? l = some { cls := .type "list", data := .seq its.toArray n } := by
  obtain ⟨z, its, n, r, e⟩ := I.hok l _ hH
  exact ⟨z, its, n, r, r.length, e⟩
theorem notLongL {n : Nat} (h : n ≤ sizeLine) : Builtin.List.listTooLong n = false := by
  unfold Builtin.List.listTooLong
  exact decide_eq_false (by omega)
end
section
variable {X : Cx}
def rAppend : V → List V → Hp → VK → Prop := fun x vs H Q => ∃ l xs y, x = .ref l ∧ vs = [y] ∧ H l = some (.lst xs) ∧ xs.length < sizeLine ∧ Q .non (upd H l (.lst (xs ++ [y])))
theorem mt_append : MtM X "list.append" rAppend := by
  intro pins s σ H x vs v us Q I rx rv h
  obtain ⟨l, xs, y, rfl, rfl, hH, hz, q⟩ := h
  cases rx
  obtain ⟨u, rfl, ru⟩ := rv.one
  obtain ⟨z, its, n, r, hl, e⟩ := I.lstM hH
  refine call_meets F.slot_list_append ⟨_, e, rfl⟩ F.entry_list_append (F.args_list_append_2 _ _) (PySem.list_append l its.toArray n u (by rw [List.size_toArray]; omega)) ⟨e, ?_⟩
  refine ⟨.non, _, I.lset (its' := its ++ [u]) hH e (by simp) (r.append (.cons ru .nil)) ?_, rfl, q⟩
  rw [List.length_append, List.length_singleton]
  omega
def rExtend : V → List V → Hp → VK → Prop := fun x vs H Q => ∃ l b xs zs, x = .ref l ∧ vs = [.ref b] ∧ H l = some (.lst xs) ∧ H b = some (.lst zs) ∧ xs.length + zs.length ≤ sizeLine ∧ Q .non (upd H l (.lst (xs ++ zs)))
theorem mt_extend : MtM X "list.extend" rExtend := by
  intro pins s σ H x vs v us Q I rx rv h
  obtain ⟨l, b, xs, zs, rfl, rfl, hH, hB, hz, q⟩ := h
  cases rx
  obtain ⟨u, rfl, ru⟩ := rv.one
  cases ru
  obtain ⟨z, its, n, r, hl, e⟩ := I.lstM hH
  obtain ⟨z2, its2, n2, r2, hl2, e2⟩ := I.lstM hB
  have hsz : its.toArray.size + its2.toArray.size ≤ sizeLine := by rw [List.size_toArray, List.size_toArray]; omega
  have hlong : ¬ (!its.toArray.isEmpty && Builtin.List.listTooLong (its.toArray.size + its2.toArray.size)) = true := by
    rw [notLongL hsz, Bool.and_false]
    exact Bool.false_ne_true
  refine call_meets F.slot_list_extend ⟨_, e, rfl⟩ F.entry_list_extend (F.args_list_extend_2 _ _)
    (AutoSeq1.list_extend_list_list_0 l its.toArray n b its2.toArray n2 hlong (by rw [List.size_toArray]; omega) (by omega)) ⟨e, e2, ?_⟩
  refine ⟨.non, _, I.lset (its' := its ++ its2) hH e (by simp) (r.append r2) ?_, rfl, q⟩
  rw [List.length_append]
  omega
def rCat : R2 := fun x y H Q => ∃ l b xs zs, x = .ref l ∧ y = .ref b ∧ H l = some (.lst xs) ∧ H b = some (.lst zs) ∧ xs.length + zs.length ≤ sizeLine ∧ ∀ p, H p = none → Q (.ref p) (upd H p (.lst (xs ++ zs)))
theorem op_cat : OpR X (binaryOp .Add) rCat := by
  intro pins s σ H x y v u Q I rx ry h
  obtain ⟨l, b, xs, zs, rfl, rfl, hH, hB, hz, q⟩ := h
  cases rx
  cases ry
  obtain ⟨z, its, n, r, hl, e⟩ := I.lstM hH
  obtain ⟨z2, its2, n2, r2, hl2, e2⟩ := I.lstM hB
  refine PySem.P.add_list e e2 ?_ (by rw [List.size_toArray, List.size_toArray]; omega)
  have ea : its.toArray ++ its2.toArray = (its ++ its2).toArray := by simp
  rw [ea]
  exact ⟨.ref _, _, I.lnew (t' := s.toks) (r.append r2) (by rw [List.length_append]; omega), rfl, q _ I.fresh⟩
def rRep : R2 := fun x y H Q => ∃ l k xs, x = .ref l ∧ y = .int k ∧ H l = some (.lst xs) ∧ -(2 ^ 63) ≤ k ∧ k < 2 ^ 63 ∧ xs.length * k.toNat ≤ sizeLine ∧
  ∀ p, H p = none → Q (.ref p) (upd H p (.lst (List.replicate k.toNat xs).flatten))
theorem len_rep {α : Type} (xs : List α) (k : Nat) : (List.replicate k xs).flatten.length = k * xs.length := by
  induction k with
  | zero => simp
  | succ k ih => rw [List.replicate_succ, List.flatten_cons, List.length_append, ih, Nat.succ_mul, Nat.add_comm]
theorem op_rep : OpR X (binaryOp .Mult) rRep := by
  intro pins s σ H x y v u Q I rx ry h
  obtain ⟨l, k, xs, rfl, rfl, hH, h1, h2, hz, q⟩ := h
  cases rx
  obtain ⟨t, rfl⟩ := ry
  obtain ⟨z, its, n, r, hl, e⟩ := I.lstM hH
  have hlen : its.toArray.size * k.toNat ≤ sizeLine := by rw [List.size_toArray, ← hl]; exact hz
  have hcap : ¬ its.toArray.size * k.toNat > (2 ^ 63 - 1) / 8 := by
    have : (sizeLine : Nat) ≤ (2 ^ 63 - 1) / 8 := by decide
    omega
  have hfit : ¬ (!Builtin.List.listFitsIndex k) = true := by
    rw [fitsIndex_both h1 h2]
    exact Bool.false_ne_true
  have hlong : ¬ Builtin.List.listTooLong (its.toArray.size * k.toNat) = true := by
    rw [notLongL hlen]
    exact Bool.false_ne_true
  have hnew : List.foldl (fun x1 x2 => x1 ++ x2) #[] (List.replicate (if its.toArray.isEmpty = true then 0 else k.toNat) its.toArray) = (List.replicate k.toNat its).flatten.toArray := by
    have f0 : ∀ m : Nat, List.foldl (fun x1 x2 => x1 ++ x2) #[] (List.replicate m its.toArray) = (List.replicate m its).flatten.toArray := fun m => by
      have := foldl_rep its m []
      rw [List.nil_append] at this
      exact this
    rw [f0]
    cases its with
    | nil => simp
    | cons a r' => rw [if_neg (by simp)]
  refine wpAny_binaryOp_repeat_ref (T := "list") (U := "int") (by decide) ⟨_, e, rfl⟩ (fun s' => typeIs_int s' k t) noFill_list_mul F.fills_int_mul F.slot_int_rmul repeat_list F.slot_int_index.lookup
    (call_meets F.slot_int_rmul (typeIs_int s k t) F.entry_int_rmul (F.args_int_rmul_2 _ _) (int___rmul___int_list k t l its.toArray n)
      ⟨e, rfl, ⟨_, e, rfl⟩, call_meets F.slot_list_mul ⟨_, e, rfl⟩ F.entry_list_mul (F.args_list_mul_2 _ _) (AutoListH.list___mul___list_int_3 l its.toArray n k t hfit hcap hlong) ⟨e, ?_⟩⟩)
  rw [hnew]
  exact ⟨.ref _, _, I.lnew (t' := s.toks) (r.rep k.toNat) (by rw [len_rep, Nat.mul_comm]; exact hz), rfl, q _ I.fresh⟩
end
section
variable {prog : Program} {w : World} {A : Around} {E : Value → Shared → Prop} {s : Shared}
set_option maxRecDepth 100000 in
end
section
variable {X : Cx}
end
end L2
namespace Att
open PySem PySem.W PySem.Calls PyProof.Rows
theorem ints_of_wellAll {P : Params} {h : Heap} : ∀ (ns : List Int) (vs : List Value), WellAll P h vs (ns.map WData.int) → IntsAre vs ns := by
  intro ns
  induction ns with
  | nil =>
    intro vs w
    rw [List.map_nil] at w
    cases w
    exact .nil
  | cons n ns ih =>
    intro vs w
    rw [List.map_cons] at w
    cases w with
    | cons a b =>
      cases a
      exact .cons _ _ (ih _ b)
theorem script_of {l : OpenLaw} {n : Nat} (hn : l.most = some n) {P : Params} {h : Heap} {args : List WData} {vals : List Value}
    (hpre : l.row.toRowW.claim.pre args = true) (hwl : WellAll P h vals args) :
    ∃ a vs ns, vals = [Value.ref a] ∧ args = [WData.list (ns.map WData.int)] ∧ h.get? a = some { cls := .type "list", data := .seq vs.toArray } ∧ IntsAre vs ns ∧ ns.length ≤ n := by
  have hsh : WShape.hasAll [] args [.list .int] = true := (pre_splitW hpre).1
  have hc : l.pre.holds [] { args := args } = true := (pre_splitW hpre).2
  obtain ⟨d, r, rfl, h1, h2⟩ := hasAllW_cons hsh
  obtain rfl := hasAllW_nil h2
  obtain ⟨xs, rfl, h3⟩ := hasW_list h1
  obtain ⟨ns, rfl⟩ := items_int h3
  have hlen : ns.length ≤ n := by
    unfold OpenLaw.pre at hc
    have h4 : (WTm.not (.lt (.lit (.int (n : Int))) (.len (.arg 0)))).holds [] { args := [.list (ns.map .int)] } = true := by
      have h4 := (holds_andW hc).1
      rw [hn] at h4
      exact h4
    have h5 := condW_of h4 (w_not (w_lt w_lit (w_len_list (w_arg rfl))))
    rw [List.length_map] at h5
    refine Nat.le_of_not_lt fun q => ?_
    have q' : (n : Int) < ((ns.length : Nat) : Int) := by omega
    first
      | (rw [decide_eq_true q'] at h5; exact absurd h5 (by decide))
      | (simp at h5; omega)
  cases hwl with
  | cons w1 w2 =>
    cases w2
    cases w1 with
    | list ho hall => exact ⟨_, _, ns, rfl, rfl, ho, ints_of_wellAll ns _ hall, hlen⟩
theorem post_true (l : OpenLaw) (args : List WData) : l.row.toRowW.claim.post args (.bool true) args = true :=
  postW_of (r := l.row.toRowW) (X := (true == true))
    (show WShape.has [] (.bool true) .bool = true by first | rfl | decide | simp [WShape.has, WShape.arms, WShape.armsAll])
    (show (WTm.eq .res (.lit (.bool true))).value [] { args := args, res := some (.bool true), after := args } = some (.bool (true == true)) from w_eq_bool (w_res rfl) w_lit) rfl
theorem attach_call {l : OpenLaw} {n : Nat} {q : Program} {loose : List Str} {XP : (Str → Option Value) → Heap → Prop} {YP : World → Heap → Prop} {d : DefRec}
    (hn : l.most = some n) (hdf : d.params.defaults = [])
    (call : ∀ (w : World) (s₀ s₁ : Shared) (mg mb : Str → Option Value) (fa : Addr) (o : Obj) (pm cd doc : Value) (a : Addr) (vs : List Value) (ns : List Int),
      Ground q loose [] XP w s₀ mg mb s₁.heap → YP w s₁.heap →
      s₁.heap.get? fa = some o → o.data = .func (docDef d.name d.params d.body d.scope pm cd doc) → s₁.heap.CodeRec cd d.name → mg d.name = some (.ref fa) →
      s₁.heap.get? a = some { cls := .type "list", data := .seq vs.toArray } → IntsAre vs ns → ns.length ≤ n → s₁.gens = #[] →
      codeAny (model l.prog w) callerA (.call (.ref fa) ⟨[.ref a], []⟩) (fun r s' => r = .ok (.ret (.bool true)) ∧ OldK s₁.heap s'.heap ∧ s'.os = s₁.os ∧ AllBare s'.gens) s₁) :
    WalkO q loose XP YP l.row.toRowW d [] (fun f vs => PySem.call f vs) := by
  intro w s₀ s₁ mg mb G Y fa o pm cd doc dV kV ho hd hcd hD hmg hg args vals as hpre hlay hrd hwl hlo
  obtain rfl : dV = .none := Dflts.none hD hdf
  obtain rfl : kV = .none := Dflts.noKw hD
  obtain ⟨a, vs, ns, rfl, rfl, hobj, hints, hlen⟩ := script_of hn hpre hwl
  refine enter_call (codeAny_mono (call w s₀ s₁ mg mb fa o pm cd doc a vs ns G Y ho (fd_plain hd) hcd hmg hobj hints hlen hg) fun r s' hq => ?_)
  obtain ⟨rfl, h2, h3, h4⟩ := hq
  exact ⟨.inl ⟨.bool true, .bool true, [], rfl, fun _ => rfl, .bool true, post_true l _, fun _ => ⟨List.Pairwise.nil, fun _ hm => (nomatch hm)⟩⟩, h2, h3, h4⟩
section
variable {prog : Program} {w : World} {A : Around} {E : Value → Shared → Prop} {s : Shared} {K : Frag}
end
end Att
namespace L2
open PySem PySem.Spec PyProof.Rows
theorem vals_ints : ∀ {vs : List Value} {ns : List Int}, IntsAre vs ns → Vals (ns.map V.int) vs
  | _, _, .nil => .nil
  | _, _, .cons n t h => .cons ⟨t, rfl⟩ (vals_ints h)
def Only (H : Hp) : Prop := ∀ b, H b = none ∨ ∃ o xs, H b = some (.frz o (.lst xs))
theorem law_call {P : Program} {w : World} {K : PySem.W.Frag} {mg mb : Str → Option Value} {CX : CXT} {k : Nat} {fa a : Addr} {fd : FuncData} {x : Str} {sp : Sp} {s₁ : Shared} {vs : List Value} {ns : List Int}
    (KX : K.In s₁.heap) (hns : s₁.heap.Ns mainGlobals mg) (hb : s₁.heap.Ns builtinsNs mb) (hbb : ∀ x : Str, x ≠ "__name__" → mb x = bootBuiltins x) (hlim : s₁.heap.NoLimit) (hg : s₁.gens = #[])
    (ha : s₁.heap.get? a = some { cls := .type "list", data := .seq vs.toArray }) (hi : IntsAre vs ns) (hl : ns.length ≤ sizeLine) (hr : Room k callerA)
    (F : ∀ base : Heap, K.In base → base.Ns mainGlobals mg → FnOk P w K mg base CX k fa fd [x] sp) (hbind : ∀ (s : Shared) (u : Value), BindsTo s fd ⟨[u], []⟩ [(x, u)])
    (hsp : ∀ H : Hp, Only H → SqL K H a (ns.map V.int) → sp [.ref a] H (fun v _ => v = .bl true) fun _ _ _ => False)
    (hCX : ∀ H e s', CX [] H s₁ (fun _ _ _ => False) e s' → False) :
    codeAny (model P w) callerA (.call (.ref fa) ⟨[.ref a], []⟩) (fun r s' => r = .ok (.ret (.bool true)) ∧ OldK s₁.heap s'.heap ∧ s'.os = s₁.os ∧ AllBare s'.gens) s₁ := by
  have rv := vals_ints hi
  have lenV := hi.length
  have core : ∀ H : Hp, Only H → SqL K H a (ns.map V.int) → HOk P w H s₁.heap → (∀ b, H b ≠ none → b = a) → (H a ≠ none → K.lookup a = none) →
      codeAny (model P w) callerA (.call (.ref fa) ⟨[.ref a], []⟩) (fun r s' => r = .ok (.ret (.bool true)) ∧ OldK s₁.heap s'.heap ∧ s'.os = s₁.os ∧ AllBare s'.gens) s₁ := by
    intro H hO hS hok hA hK
    have base_of : ∀ {b : Addr} {o : Obj}, s₁.heap.get? b = some o → H b = none → (hidT s₁.heap H).get? b = some o := fun e n => hidT_get e n
    have noA : ∀ {b : Addr} {o : Obj} {es : Array DictEntry} {ep : Nat}, s₁.heap.get? b = some o → o.data = .dict es ep → H b = none := fun {b o es ep} e d => by
      cases q : H b with
      | none => rfl
      | some u =>
        have e' : b = a := hA b (by rw [q]; simp)
        subst e'
        rw [ha] at e; cases e
        have d' : Data.seq vs.toArray _ = Data.dict es ep := d
        cases d'
    have nsK : ∀ {b : Addr} {m : Str → Option Value}, s₁.heap.Ns b m → (hidT s₁.heap H).Ns b m := fun {b m} ⟨o, es, ep, e, d, r⟩ => ⟨o, es, ep, base_of e (noA e d), d, r⟩
    have hKb : K.In (hidT s₁.heap H) := fun b o e => base_of (KX b o e) (by
      cases q : H b with
      | none => rfl
      | some u =>
        have e' : b = a := hA b (by rw [q]; simp)
        subst e'
        rw [hK (by rw [q]; simp)] at e; cases e)
    have hM : Mod K mg (hidT s₁.heap H) := ⟨hKb, nsK hns, ⟨mb, nsK hb, hbb⟩, let ⟨mc, h1, h2⟩ := hlim; ⟨mc, nsK h1, h2⟩⟩
    have e0 : Env0 P w K mg (hidT s₁.heap H) callerA [] s₁ H := ⟨rfl, hM, fun b o e => of_hidT e, Nat.le_of_eq (hidT_size _ _), trivial, fun b hb => absurd (show b ∈ ([] : List Addr) from hb) (by simp), hok, .of_eq hg⟩
    refine codeAny_mono ((F _ hKb (nsK hns)).run callerA [] s₁ H ⟨[.ref a], []⟩ [.ref a] [.ref a] _ _ hr e0 (hbind s₁ (.ref a)) (.cons rfl .nil) (hsp H hO hS)) fun r s' h => ?_
    cases r with
    | error e => exact (hCX H e s' h).elim
    | ok fl =>
      cases fl with
      | next => exact False.elim h
      | brk => exact False.elim h
      | cont => exact False.elim h
      | ret u =>
        obtain ⟨v, H', os, bare, un, hok', r', q⟩ := h
        have q' : v = .bl true := q
        subst q'
        obtain rfl : u = Value.bool true := r'
        refine ⟨rfl, OldK.of_keep fun b o e => ?_, os, bare⟩
        cases q : H b with
        | none => exact un.keep b o e q (by intro z; exact absurd (show b ∈ ([] : List Addr) from z) (by simp)) (by simp)
        | some u =>
          rcases hO b with z | ⟨ob, xs, z⟩
          · rw [q] at z; cases z
          · have z2 := un.frzs b ob _ z
            obtain ⟨e1, _⟩ := hok b _ z
            obtain ⟨e2, _⟩ := hok' b _ z2
            rw [e] at e1; cases e1
            exact e2
  cases hk : K.lookup a with
  | some o =>
    have e := KX a o hk
    rw [ha] at e
    cases e
    refine core (fun _ => none) (fun _ => .inl rfl) (.inr ⟨_, vs.toArray, _, hk, rfl, rfl, rfl, by rw [List.size_toArray, lenV]; exact hl, by simpa using rv⟩) (fun b u z => by have z' : (none : Option HO) = some u := z; cases z') (fun b z => absurd rfl z) fun z => absurd rfl z
  | none =>
    refine core (fun b => if b = a then some (.frz { cls := .type "list", data := .seq vs.toArray } (.lst (ns.map V.int))) else none) (fun b => ?_) (.inl (.inr ⟨{ cls := .type "list", data := .seq vs.toArray }, if_pos rfl⟩)) (fun b u z => ?_) (fun b z => ?_) fun _ => hk
    · by_cases hb : b = a
      · exact .inr ⟨_, _, if_pos hb⟩
      · exact .inl (if_neg hb)
    · by_cases hb : b = a
      · have z' := (if_pos hb).symm.trans z
        cases z'
        subst hb
        exact ⟨ha, by rw [List.length_map]; exact hl, vs, _, rv, ha⟩
      · have z' := (if_neg hb).symm.trans z
        cases z'
    · by_cases hb : b = a
      · exact hb
      · exact absurd (if_neg hb) z
end L2
namespace L2
open PySem PySem.Spec PyProof.Rows
theorem walk_of {l : PySem.W.OpenLaw} {n k : Nat} {q : Program} {loose : List Str} {XP : (Str → Option Value) → Heap → Prop} {YP : World → Heap → Prop} {d : DefRec} {K : Params → PySem.W.Frag} {CX : World → CXT} {sp : World → Sp} {x : Str}
    (hn : l.most = some n) (hn2 : n ≤ sizeLine) (hdf : d.params.defaults = []) (hr : Room k callerA)
    (hY : ∀ (w : World) (h : Heap), YP w h → (K w.params).In h)
    (F : ∀ (w : World) (mg : Str → Option Value) (fa : Addr) (h : Heap), (K w.params).In h → h.Ns mainGlobals mg → mg d.name = some (.ref fa) →
      ∃ fd : FuncData, (∀ (s : Shared) (u : Value), BindsTo s fd ⟨[u], []⟩ [(x, u)]) ∧
        ∀ base : Heap, (K w.params).In base → base.Ns mainGlobals mg → FnOk l.prog w (K w.params) mg base (CX w) k fa fd [x] (sp w))
    (hsp : ∀ (w : World) (H : Hp) (a : Addr) (ns : List Int), ns.length ≤ n → Only H → SqL (K w.params) H a (ns.map V.int) → sp w [.ref a] H (fun v _ => v = .bl true) fun _ _ _ => False)
    (hCX : ∀ (w : World) (H : Hp) (s : Shared) (e : Value) (s' : Shared), CX w [] H s (fun _ _ _ => False) e s' → False) :
    PySem.W.WalkO q loose XP YP l.row.toRowW d [] (fun f vs => PySem.call f vs) := by
  refine Att.attach_call hn hdf fun w s₀ s₁ mg mb fa o pm cd doc a vs ns G Y ho hd hcd hmg hobj hints hlen hg => ?_
  have KX := hY w _ Y
  obtain ⟨fd, hb, hF⟩ := F w mg fa _ KX G.T.g hmg
  exact law_call KX G.T.g G.T.b G.T.builtins G.T.nolimit hg hobj hints (Nat.le_trans hlen hn2) hr hF hb (fun H hO hS => hsp w H a ns hlen hO hS) fun H e s' => hCX w H s₁ e s'
end L2
namespace L2
open PySem PySem.Spec PyProof.Rows
def defArgs (s : Stmt) : Arguments := match s with
  | .FunctionDef _ a _ _ _ _ _ _ _ _ => a
  | _ => { posonlyargs := [], args := [], vararg := none, kwonlyargs := [], kw_defaults := [], kwarg := none, defaults := [] }
def defBody (s : Stmt) : List Stmt := match s with
  | .FunctionDef _ _ b _ _ _ _ _ _ _ => b
  | _ => []
def defScope (s : Stmt) : Scope := match s with
  | .FunctionDef _ _ _ _ _ _ sc _ _ _ => sc
  | _ => { kind := .function, names := [], isGenerator := false, isCoroutine := false }
abbrev CX0 : CXT := fun _ _ _ _ _ _ => False
abbrev E0 : XK := fun _ _ _ => False
theorem pass0 {X : Cx} : Passes CX0 X E0 := fun _ _ _ _ _ _ _ h => h.elim
structure Fun (K : PySem.W.Frag) (x qual : Str) (st : Stmt) (f : Addr) (fd : FuncData) : Prop where
  ex : ∃ (oc : Value) (od : Option Addr) (kV doc pm : Value) (an : Option Addr) (cdv ct : Value) (osl : Array (Option Value)),
    fd = PySem.W.fnOf x qual (defArgs st) (defBody st) (defScope st) .none kV doc pm an cdv ct ∧ K.lookup f = some ⟨oc, od, .func fd, osl⟩ ∧ PySem.W.codeIn K cdv qual = true
  kp : PySem.W.keepIn K (.ref f) = true
section
variable {P : Program} {w : World} {K : PySem.W.Frag} {mg : Str → Option Value} {base : Heap}
theorem Fun.ok {x qual : Str} {st : Stmt} {f : Addr} {fd : FuncData} {N ps : List Str} {k : Nat} {sp : Sp} (F : Fun K x qual st f fd) (S : FnScope N ps (defScope st)) (len : ∀ vs H Q E, sp vs H Q E → vs.length = ps.length)
    (hbody : ∀ (cdv : Value) (A : Around) (outer : List Env) (s : Shared) (H : Hp) (vs : List V) (Q : VK) (E : XK), Room k (A.deeper (envOfC qual (defScope st) s.heap.objs.size f cdv)) → sp vs H Q E →
      ∃ t, PSs (cxOf CX0 P w K mg base N qual (defScope st) f cdv A outer s H E).nox (defBody st) t ∧ t { nx := fun _ H' => Q .non H', rt := Q } (start N vs) H) : FnOk P w K mg base CX0 (k + 1) f fd ps sp := by
  obtain ⟨oc, od, kV, doc, pm, an, cdv, ct, osl, rfl, lk, hcd⟩ := F.ex
  refine fn_of lk hcd S len fun A outer s H vs Q E hr hsp => ?_
  obtain ⟨t, h, q⟩ := hbody cdv A outer s H vs Q E hr hsp
  exact ⟨t, h.nox, q⟩
theorem Fun.binds {x qual : Str} {st : Stmt} {f : Addr} {fd : FuncData} {ps : List Str} (F : Fun K x qual st f fd)
    (h : ∀ (kV doc pm : Value) (an : Option Addr) (cdv ct : Value) (us : List Value), us.length = ps.length → bindArgs (PySem.W.fnOf x qual (defArgs st) (defBody st) (defScope st) .none kV doc pm an cdv ct) ⟨us, []⟩ = pure (ps.zip us)) : Binds K fd ps [] := by
  obtain ⟨oc, od, kV, doc, pm, an, cdv, ct, osl, rfl, lk, hcd⟩ := F.ex
  exact .all (h kV doc pm an cdv ct)
theorem fun_mk {x qual : Str} {st : Stmt} {f : Addr} {oc : Value} {od an : Option Addr} {osl : Array (Option Value)} {kV doc pm cdv ct : Value} (l : K.lookup f = some ⟨oc, od, .func (PySem.W.fnOf x qual (defArgs st) (defBody st) (defScope st) .none kV doc pm an cdv ct), osl⟩)
    (c : PySem.W.codeIn K cdv qual = true) (k : PySem.W.keepIn K (.ref f) = true) : Fun K x qual st f (PySem.W.fnOf x qual (defArgs st) (defBody st) (defScope st) .none kV doc pm an cdv ct) := ⟨⟨oc, od, kV, doc, pm, an, cdv, ct, osl, rfl, l, c⟩, k⟩
end
theorem hu_of {A : Around} {k : Nat} (hr : Room k A) : A.units + 1 < cLine := Nat.lt_of_le_of_lt (Nat.add_le_add_left (by decide : 1 ≤ 64) _) hr.units
theorem small1000 {n : Nat} (h : n ≤ 1000) : n < sizeLine := Nat.lt_of_le_of_lt h (by decide)
section
variable {X : Cx}
theorem pv (i : Nat) {x : Str} {pos : Pos} (hN : X.N[i]? = some x := by rfl) (hv : Vis X.env.scope x := by first | exact Or.inl rfl | exact Or.inr (Or.inl rfl) | exact Or.inr (Or.inr rfl)) (hd : (x == ("__debug__" : Str)) = false := by decide)
    (hcd : (x == ("__classdict__" : Str)) = false := by decide) : PE X (.Name x pos) (tVar i) := pe_var hN hv hd hcd
end
theorem iteF {A B : Prop} (h : B) : if false = true then A else B := by
  rw [if_neg Bool.false_ne_true]
  exact h
theorem iteT {A B : Prop} (h : A) : if true = true then A else B := by
  rw [if_pos rfl]
  exact h
theorem ite2 {c A B : Prop} [Decidable c] (h1 : c → A) (h2 : ¬ c → B) : if c then A else B := by
  by_cases h : c
  · rw [if_pos h]
    exact h1 h
  · rw [if_neg h]
    exact h2 h
def Same (H H' : Hp) : Prop := ∀ b o, H b = some o → H' b = some o
theorem Same.refl (H : Hp) : Same H H := fun _ _ h => h
theorem Same.trans {H H1 H2 : Hp} (a : Same H H1) (b : Same H1 H2) : Same H H2 := fun c o h => b c o (a c o h)
theorem Same.free {H H' : Hp} (e : Same H H') {l : Addr} (h : H' l = Option.none) : H l = Option.none := by
  cases q : H l with
  | none => rfl
  | some o =>
    rw [e l o q] at h
    cases h
theorem Same.seq {K : PySem.W.Frag} {H H' : Hp} {a : Addr} {xs : List V} (e : Same H H') (h : SqL K H a xs) : SqL K H' a xs := by
  rcases h with (h | ⟨o, h⟩) | h
  · exact .inl (.inl (e _ _ h))
  · exact .inl (.inr ⟨o, e _ _ h⟩)
  · exact .inr h
end L2
namespace L2
open PySem PySem.Spec PyProof.Rows
section
variable {X : Cx}
end
section
variable {κ : Type} [DecidableEq κ]
theorem valV_not {kvs : List (κ × V)} {k : κ} (h : valV kvs k = none) : ¬ k ∈ kvs.map (·.1) := by
  intro m
  obtain ⟨p, hp, e⟩ := List.mem_map.mp m
  have q : (kvs.any fun kv => decide (kv.1 = k)) = true := List.any_eq_true.mpr ⟨p, hp, decide_eq_true e⟩
  rw [valV_any, h] at q
  exact absurd q (by simp)
theorem nd_snoc : ∀ {l : List κ} {k : κ}, l.Nodup → ¬ k ∈ l → (l ++ [k]).Nodup
  | [], k, _, _ => by simp
  | a :: r, k, h, hk => by
    obtain ⟨h1, h2⟩ := List.nodup_cons.mp h
    show (a :: (r ++ [k])).Nodup
    refine List.nodup_cons.mpr ⟨fun m => ?_, nd_snoc h2 fun m => hk (List.mem_cons.mpr (Or.inr m))⟩
    rcases List.mem_append.mp m with q | q
    · exact h1 q
    · exact hk (List.mem_cons.mpr (Or.inl (List.mem_singleton.mp q).symm))
theorem nd_putK {kvs : List (κ × V)} {k : κ} (v : V) (hn : (kvs.map (·.1)).Nodup) (h : valV kvs k = none) : ((putK kvs k v).map (·.1)).Nodup := by
  rw [putK_new v h, List.map_append]
  exact nd_snoc hn (valV_not h)
end
end L2
set_option maxHeartbeats 4000000
namespace SA
set_option maxHeartbeats 4000000
def fp (n s : Int) : Int :=
  if n % 2 = 0 then 6 * (s / 4) + 2 * (s % 4) - 1 - n / 2
  else if n = 1 then s / 4 + s % 4 - 1
  else if n = 2 * (s / 4) - 1 then 2 * (s / 4) + 2 * (s % 4) - 1
  else if n = 4 * (s / 4) - 1 + 2 * (s % 4) then 2 * (s / 4)
  else if n > 2 * (s / 4) then (4 * (s / 4) + 2 * (s % 4) - 3 - n) / 2
  else (4 * (s / 4) + 2 * (s % 4) - 1 - n) / 2
theorem fp_range (s n : Int) (h1 : 1 ≤ s) (h4 : s % 4 ≤ 1) (_h5 : s ≠ 5) (hn : 1 ≤ n) (hs : n ≤ s) : 0 ≤ fp n s ∧ fp n s + n < 2 * s := by
  unfold fp
  split
  · omega
  · split
    · omega
    · split
      · omega
      · split
        · omega
        · split <;> omega
end SA
namespace SA
set_option maxHeartbeats 4000000
set_option linter.unusedVariables false
def plc : List Int → Int → Int → List Int
  | [], _, _ => []
  | x :: r, i, n => if x = n then i :: plc r (i + 1) n else plc r (i + 1) n
theorem plc_append (n : Int) : ∀ (a b : List Int) (i : Int), plc (a ++ b) i n = plc a i n ++ plc b (i + a.length) n
  | [], b, i => by simp [plc]
  | x :: r, b, i => by
    have e : i + 1 + (r.length : Int) = i + ((x :: r).length : Int) := by simp only [List.length_cons]; omega
    simp only [List.cons_append, plc, plc_append n r b (i + 1), e]
    split <;> simp
theorem plc_snoc (n x : Int) (a : List Int) : plc (a ++ [x]) 0 n = plc a 0 n ++ (if x = n then [(a.length : Int)] else []) := by
  rw [plc_append]; simp only [plc, Int.zero_add]
theorem plc_length (n : Int) : ∀ (a : List Int) (i : Int), (plc a i n).length = a.count n
  | [], _ => by simp [plc]
  | x :: r, i => by
    simp only [plc, List.count_cons]
    by_cases h : x = n
    · simp [h, plc_length n r]
    · simp [h, plc_length n r]
theorem mem_plc (n : Int) : ∀ (a : List Int) (i p : Int), p ∈ plc a i n ↔ ∃ k : Nat, a[k]? = some n ∧ p = i + k
  | [], i, p => by simp [plc]
  | x :: r, i, p => by
    have ih := mem_plc n r (i + 1) p
    have tl : (∃ k : Nat, r[k]? = some n ∧ p = i + 1 + k) ↔ ∃ k : Nat, (x :: r)[k + 1]? = some n ∧ p = i + ((k + 1 : Nat) : Int) :=
      ⟨fun ⟨k, h1, h2⟩ => ⟨k, by simpa using h1, by omega⟩, fun ⟨k, h1, h2⟩ => ⟨k, by simpa using h1, by omega⟩⟩
    have split0 : (∃ k : Nat, (x :: r)[k]? = some n ∧ p = i + k) ↔ (x = n ∧ p = i) ∨ ∃ k : Nat, (x :: r)[k + 1]? = some n ∧ p = i + ((k + 1 : Nat) : Int) := by
      constructor
      · rintro ⟨k, h1, h2⟩
        cases k with
        | zero => exact .inl ⟨by simpa using h1, by simpa using h2⟩
        | succ k => exact .inr ⟨k, h1, h2⟩
      · rintro (⟨h1, h2⟩ | ⟨k, h1, h2⟩)
        · exact ⟨0, by simpa using h1, by simpa using h2⟩
        · exact ⟨k + 1, h1, h2⟩
    rw [split0, ← tl, ← ih]
    simp only [plc]
    by_cases h : x = n
    · simp [h]
    · simp [h]
theorem plc_lt (n : Int) : ∀ (a : List Int) (i : Int), (plc a i n).Pairwise (· < ·)
  | [], _ => by simp [plc]
  | x :: r, i => by
    simp only [plc]
    split
    · refine List.Pairwise.cons (fun p hp => ?_) (plc_lt n r (i + 1))
      obtain ⟨k, _, e⟩ := (mem_plc n r (i + 1) p).mp hp
      omega
    · exact plc_lt n r (i + 1)
def RowOf (s : Nat) (row : List Int) : Prop := row.length = 2 * s ∧ ∀ n : Nat, 1 ≤ n → n ≤ s → ∃ p : Int, plc row 0 n = [p, p + n]
def IsRow (row : List Int) : Prop := ∃ s : Nat, 1 ≤ s ∧ s ≤ 400 ∧ RowOf s row
theorem count_sum (row : List Int) : ∀ s : Nat, (∀ n : Nat, 1 ≤ n → n ≤ s → row.count (n : Int) = 2) → (row.filter fun x => decide (1 ≤ x ∧ x ≤ (s : Int))).length = 2 * s
  | 0, _ => by
    rw [List.length_eq_zero_iff, List.filter_eq_nil_iff]
    intro x _ h
    simp at h
    omega
  | s + 1, h => by
    have ih := count_sum row s fun n h1 h2 => h n h1 (by omega)
    have hc := h (s + 1) (by omega) (by omega)
    have key : ∀ l : List Int, (l.filter fun x => decide (1 ≤ x ∧ x ≤ ((s + 1 : Nat) : Int))).length = (l.filter fun x => decide (1 ≤ x ∧ x ≤ (s : Int))).length + l.count ((s + 1 : Nat) : Int) := by
      intro l
      induction l with
      | nil => simp
      | cons x r ih =>
        rw [List.count_cons]
        simp only [List.filter_cons]
        by_cases e : x = ((s + 1 : Nat) : Int)
        · have h1 : decide (1 ≤ x ∧ x ≤ ((s + 1 : Nat) : Int)) = true := by simp; omega
          have h2 : decide (1 ≤ x ∧ x ≤ (s : Int)) = false := by simp; omega
          have h3 : (x == ((s + 1 : Nat) : Int)) = true := by simpa using e
          rw [h1, h2, h3]; simp only [if_true, List.length_cons, ih, Bool.false_eq_true, if_false]; omega
        · have h3 : (x == ((s + 1 : Nat) : Int)) = false := by simpa using e
          have h4 : decide (1 ≤ x ∧ x ≤ ((s + 1 : Nat) : Int)) = decide (1 ≤ x ∧ x ≤ (s : Int)) := by
            apply decide_eq_decide.mpr; omega
          rw [h4, h3]
          split
          · simp only [List.length_cons, ih]; simp; omega
          · rw [ih]; simp
    rw [key, ih, hc]; omega
theorem RowOf.count {s : Nat} {row : List Int} (h : RowOf s row) {n : Nat} (h1 : 1 ≤ n) (h2 : n ≤ s) : row.count (n : Int) = 2 := by
  obtain ⟨p, e⟩ := h.2 n h1 h2
  rw [← plc_length n row 0, e]; rfl
theorem RowOf.mem {s : Nat} {row : List Int} (h : RowOf s row) : ∀ x ∈ row, 1 ≤ x ∧ x ≤ (s : Int) := by
  have e := count_sum row s fun n h1 h2 => h.count h1 h2
  have e2 : (row.filter fun x => decide (1 ≤ x ∧ x ≤ (s : Int))).length = row.length := by rw [e, h.1]
  have e3 := List.length_filter_eq_length_iff.mp e2
  intro x hx
  simpa using e3 x hx
theorem plc_two {row : List Int} {n : Int} {p q : Nat} (hp : row[p]? = some n) (hq : row[q]? = some n) (hlt : p < q) (ho : ∀ k : Nat, row[k]? = some n → k = p ∨ k = q) : plc row 0 n = [(p : Int), (q : Int)] := by
  have hs := plc_lt n row 0
  have hm := mem_plc n row 0
  have m1 : (p : Int) ∈ plc row 0 n := (hm p).mpr ⟨p, hp, by omega⟩
  have m2 : (q : Int) ∈ plc row 0 n := (hm q).mpr ⟨q, hq, by omega⟩
  have ho' : ∀ z ∈ plc row 0 n, z = (p : Int) ∨ z = (q : Int) := fun z hz => by
    obtain ⟨k, h1, h2⟩ := (hm z).mp hz
    rcases ho k h1 with e | e <;> omega
  generalize plc row 0 n = l at *
  match l, hs, m1, m2, ho' with
  | [], _, m1, _, _ => simp at m1
  | [a], _, m1, m2, _ => simp at m1 m2; omega
  | [a, b], hs, m1, m2, _ =>
    simp at hs m1 m2
    have : (p : Int) = a ∧ (q : Int) = b := by omega
    rw [this.1, this.2]
  | a :: b :: c :: r, hs, m1, m2, ho =>
    simp at hs
    have h1 := ho a (by simp)
    have h2 := ho b (by simp)
    have h3 := ho c (by simp)
    omega
theorem of_plc_two {row : List Int} {n p q : Int} (e : plc row 0 n = [p, q]) : ∃ i j : Nat, p = i ∧ q = j ∧ i < j ∧ row[i]? = some n ∧ row[j]? = some n ∧ ∀ k : Nat, row[k]? = some n → k = i ∨ k = j := by
  have hm := mem_plc n row 0
  have hs := plc_lt n row 0
  rw [e] at hm hs
  obtain ⟨i, hi, ei⟩ := (hm p).mp (by simp)
  obtain ⟨j, hj, ej⟩ := (hm q).mp (by simp)
  simp at hs
  refine ⟨i, j, by omega, by omega, by omega, hi, hj, fun k hk => ?_⟩
  have := (hm (0 + k)).mpr ⟨k, hk, rfl⟩
  simp at this
  omega
structure Good (row : List Int) (P : Nat → Prop) : Prop where
  pl : ∀ n, P n → 1 ≤ n ∧ ∃ p : Nat, row[p]? = some (n : Int) ∧ row[p + n]? = some (n : Int) ∧ ∀ k : Nat, row[k]? = some (n : Int) → k = p ∨ k = p + n
  fr : ∀ (k : Nat) x, row[k]? = some x → x = 0 ∨ ∃ n, P n ∧ x = (n : Int)
def put (row : List Int) (n p : Nat) : List Int := (row.set p n).set (p + n) n
theorem put_length (row : List Int) (n p : Nat) : (put row n p).length = row.length := by simp [put]
theorem put_get {row : List Int} {n p : Nat} (hq : p + n < row.length) (k : Nat) : (put row n p)[k]? = if k = p ∨ k = p + n then some (n : Int) else row[k]? := by
  unfold put
  by_cases h2 : k = p + n
  · subst h2
    rw [List.getElem?_set_self (by simpa using hq)]; simp
  · rw [List.getElem?_set_ne (Ne.symm h2)]
    by_cases h1 : k = p
    · subst h1
      rw [List.getElem?_set_self (by omega)]; simp
    · rw [List.getElem?_set_ne (Ne.symm h1)]; simp [h1, h2]
theorem Good.put {row : List Int} {P : Nat → Prop} (g : Good row P) {n p : Nat} (h1 : 1 ≤ n) (hn : ¬ P n) (h0 : row[p]? = some 0) (hq : row[p + n]? = some 0) : Good (put row n p) fun m => m = n ∨ P m := by
  have hl : p + n < row.length := (List.getElem?_eq_some_iff.mp hq).1
  refine ⟨fun m hm => ?_, fun k x hx => ?_⟩
  · rcases hm with rfl | hm
    · refine ⟨h1, p, by rw [put_get hl]; simp, by rw [put_get hl]; simp, fun k hk => ?_⟩
      rw [put_get hl] at hk
      split at hk
      · assumption
      · rcases g.fr k _ hk with e | ⟨m', hm', e⟩
        · omega
        · have : m = m' := by omega
          subst this; exact absurd hm' hn
    · obtain ⟨h1m, p', e1, e2, ho⟩ := g.pl m hm
      have ne : m ≠ n := fun e => hn (e ▸ hm)
      have n1 : ∀ k, row[k]? = some (m : Int) → ¬ (k = p ∨ k = p + n) := by
        intro k hk h
        rcases h with rfl | rfl
        · rw [h0] at hk; simp at hk; omega
        · rw [hq] at hk; simp at hk; omega
      refine ⟨h1m, p', by rw [put_get hl, if_neg (n1 _ e1)]; exact e1, by rw [put_get hl, if_neg (n1 _ e2)]; exact e2, fun k hk => ?_⟩
      rw [put_get hl] at hk
      split at hk
      · simp at hk; omega
      · exact ho k hk
  · rw [put_get hl] at hx
    split at hx
    · simp at hx; exact .inr ⟨n, .inl rfl, hx.symm⟩
    · rcases g.fr k x hx with e | ⟨m, hm, e⟩
      · exact .inl e
      · exact .inr ⟨m, .inr hm, e⟩
theorem Good.imp {row : List Int} {P P' : Nat → Prop} (g : Good row P) (h : ∀ n, P n ↔ P' n) : Good row P' :=
  ⟨fun n hn => g.pl n ((h n).mpr hn), fun k x hx => (g.fr k x hx).imp id fun ⟨n, hn, e⟩ => ⟨n, (h n).mp hn, e⟩⟩
theorem good_zero (s : Nat) : Good (List.replicate s 0) fun _ => False :=
  ⟨fun _ h => h.elim, fun k x hx => by rw [List.getElem?_replicate] at hx; split at hx <;> simp at hx; exact .inl hx.symm⟩
theorem Good.rowOf {row : List Int} {s : Nat} (g : Good row fun n => 1 ≤ n ∧ n ≤ s) (hl : row.length = 2 * s) : RowOf s row :=
  ⟨hl, fun n h1 h2 => by
    obtain ⟨_, p, e1, e2, ho⟩ := g.pl n ⟨h1, h2⟩
    exact ⟨p, by have := plc_two e1 e2 (by omega) ho; simpa using this⟩⟩
def Compl : Nat → List Int → List Int → Prop
  | 0, row, c => c = row
  | n + 1, row, c => ∃ p : Nat, row[p]? = some 0 ∧ row[p + (n + 1)]? = some 0 ∧ Compl n (put row (n + 1) p) c
theorem Compl.good {s : Nat} : ∀ {n : Nat} {row c : List Int}, Compl n row c → n ≤ s → Good row (fun m => n < m ∧ m ≤ s) → Good c (fun m => 1 ≤ m ∧ m ≤ s) ∧ c.length = row.length
  | 0, row, c, h, _, g => by
    have h : c = row := h
    subst h; exact ⟨g.imp fun m => by omega, rfl⟩
  | n + 1, row, c, h, hs, g => by
    obtain ⟨p, h0, hq, hc⟩ := h
    have := hc.good (s := s) (by omega) ((g.put (by omega) (by omega) h0 hq).imp fun m => by omega)
    rw [put_length] at this
    exact this
theorem Compl.rowOf {s : Nat} {c : List Int} (h : Compl s (List.replicate (2 * s) 0) c) : RowOf s c := by
  obtain ⟨g, hl⟩ := h.good (Nat.le_refl s) ((good_zero (2 * s)).imp fun m => ⟨False.elim, fun h => by have h1 := h.1; have h2 := h.2; omega⟩)
  exact g.rowOf (by simpa using hl)
def follow : Nat → List Int → List Nat → Bool
  | 0, _, [] => true
  | n + 1, row, p :: ps => row[p]? == some 0 && row[p + (n + 1)]? == some 0 && follow n (put row (n + 1) p) ps
  | _, _, _ => false
theorem compl_of_follow : ∀ (n : Nat) (row : List Int) (ps : List Nat), follow n row ps = true → ∃ c, Compl n row c
  | 0, row, [], _ => ⟨row, rfl⟩
  | 0, _, _ :: _, h => by simp [follow] at h
  | n + 1, _, [], h => by simp [follow] at h
  | n + 1, row, p :: ps, h => by
    simp only [follow, Bool.and_eq_true, beq_iff_eq] at h
    obtain ⟨c, hc⟩ := compl_of_follow n _ ps h.2
    exact ⟨c, p, h.1.1, h.1.2, hc⟩
end SA
namespace SA
set_option maxHeartbeats 4000000
set_option linter.unusedVariables false
theorem compl_small : ∀ s ∈ [1, 4, 5, 8, 9], ∃ c, Compl s (List.replicate (2 * s) 0) c := by
  intro s hs
  simp only [List.mem_cons, List.not_mem_nil, or_false] at hs
  rcases hs with rfl | rfl | rfl | rfl | rfl
  · exact compl_of_follow _ _ [0] (by decide +kernel)
  · exact compl_of_follow _ _ [0, 2, 1, 6] (by decide +kernel)
  · exact compl_of_follow _ _ [0, 2, 4, 1, 8] (by decide +kernel)
  · exact compl_of_follow _ _ [0, 2, 4, 1, 7, 12, 3, 13] (by decide +kernel)
  · exact compl_of_follow _ _ [0, 2, 1, 5, 12, 3, 13, 4, 14] (by decide +kernel)
def fpN (n s : Nat) : Nat := (fp n s).toNat
theorem fpN_eq {n s : Nat} (h1 : 1 ≤ s) (h4 : s % 4 ≤ 1) (h5 : s ≠ 5) (hn : 1 ≤ n) (hs : n ≤ s) : (fpN n s : Int) = fp n s ∧ fpN n s + n < 2 * s := by
  have := fp_range s n (by omega) (by omega) (by omega) (by omega) (by omega)
  unfold fpN; omega
def fill (s : Nat) : Nat → List Int
  | 0 => List.replicate (2 * s) 0
  | k + 1 => put (fill s k) (k + 1) (fpN (k + 1) s)
theorem fill_length (s : Nat) : ∀ k, (fill s k).length = 2 * s
  | 0 => by simp [fill]
  | k + 1 => by rw [fill, put_length, fill_length s k]
def rowOf (s : Nat) : List Int := if s = 5 then [1, 1, 3, 4, 5, 3, 2, 4, 2, 5] else fill s s
theorem isRow_iff (row : List Int) : IsRow row ↔ (row.length : Int) = 2 * ((row.length : Int) / 2) ∧ 1 ≤ (row.length : Int) / 2 ∧ (row.length : Int) / 2 ≤ 400 ∧
    ∀ n : Int, 1 ≤ n → n ≤ (row.length : Int) / 2 → ∃ p q, plc row 0 n = [p, q] ∧ q - p = n := by
  constructor
  · rintro ⟨s, h1, h2, hl, h⟩
    have e : (row.length : Int) / 2 = s := by omega
    refine ⟨by omega, by omega, by omega, fun n a b => ?_⟩
    obtain ⟨p, hp⟩ := h n.toNat (by omega) (by omega)
    have en : ((n.toNat : Nat) : Int) = n := by omega
    rw [en] at hp
    exact ⟨p, p + n, hp, by omega⟩
  · rintro ⟨h1, h2, h3, h⟩
    refine ⟨row.length / 2, by omega, by omega, by omega, fun n a b => ?_⟩
    obtain ⟨p, q, e, d⟩ := h n (by omega) (by omega)
    exact ⟨p, by rw [e]; congr 2; omega⟩
structure Fine (s : Int) (pre : List Int) : Prop where
  bd : ∀ x ∈ pre, 1 ≤ x ∧ x ≤ s
  two : ∀ n, plc pre 0 n = [] ∨ (∃ p, plc pre 0 n = [p]) ∨ ∃ p, plc pre 0 n = [p, p + n]
theorem plc_prefix (n : Int) (a b : List Int) : ∃ r, plc (a ++ b) 0 n = plc a 0 n ++ r := ⟨_, plc_append n a b 0⟩
theorem RowOf.turn {s : Nat} {pre post : List Int} {x : Int} (h : RowOf s (pre ++ x :: post)) : (1 ≤ x ∧ x ≤ s) ∧ (plc pre 0 x = [] ∨ ∃ p, plc pre 0 x = [p] ∧ (pre.length : Int) - p = x) := by
  have hx := h.mem x (by simp)
  refine ⟨hx, ?_⟩
  obtain ⟨p, e⟩ := h.2 x.toNat (by omega) (by omega)
  have en : ((x.toNat : Nat) : Int) = x := by omega
  rw [en] at e
  have e2 : pre ++ x :: post = (pre ++ [x]) ++ post := by simp
  rw [e2] at e
  obtain ⟨r, er⟩ := plc_prefix x (pre ++ [x]) post
  rw [er, plc_snoc, if_pos rfl] at e
  match hp : plc pre 0 x, e with
  | [], _ => exact .inl rfl
  | [a], e => simp at e; exact .inr ⟨a, rfl, by omega⟩
  | a :: b :: c, e => simp at e
end SA
namespace SA
set_option linter.unusedVariables false
theorem RowOf.reverse {s : Nat} {row : List Int} (h : RowOf s row) : RowOf s row.reverse := by
  refine ⟨by rw [List.length_reverse]; exact h.1, fun n a b => ?_⟩
  obtain ⟨p, e⟩ := h.2 n a b
  obtain ⟨i, j, hi, hj, hlt, gi, gj, ho⟩ := of_plc_two e
  have hjl : j < row.length := (List.getElem?_eq_some_iff.mp gj).1
  have r : ∀ k, k < row.length → row.reverse[k]? = row[row.length - 1 - k]? := fun k hk => List.getElem?_reverse hk
  have e1 : row.length - 1 - (row.length - 1 - j) = j := by omega
  have e2 : row.length - 1 - (row.length - 1 - i) = i := by omega
  have := plc_two (row := row.reverse) (n := (n : Int)) (p := row.length - 1 - j) (q := row.length - 1 - i) (by rw [r _ (by omega), e1]; exact gj) (by rw [r _ (by omega), e2]; exact gi) (by omega) (fun k hk => by
    have hkl : k < row.length := by have := (List.getElem?_eq_some_iff.mp hk).1; rwa [List.length_reverse] at this
    rw [r k hkl] at hk
    have := ho _ hk
    omega)
  refine ⟨((row.length - 1 - j : Nat) : Int), ?_⟩
  rw [this]
  congr 2
  omega
end SA
namespace L2
open PySem PySem.Spec PyProof.Rows
theorem codeAny_compLoop_go {prog : Program} {w : World} {A : Around} {R : Result → Shared → Prop} {s : Shared} {elt target iter : Expr} {ifs : List Expr} {scope : Scope} {pos : Pos} {it acc : Value} {env : Env} (I : Nat → Shared → Prop)
    (turn : ∀ n s, I n s → wpAny (model prog w) A (pyNext it) (fun r s₁ => match r with
      | none => R (.ok .next) s₁
      | some v => wpAny (model prog w) A (letOwnedTupleGo target it v) (fun _ s₁ => wpAny (model prog w) A (assign target env v) (fun _ s₂ =>
          wpAny (model prog w) A (forIn ifs true fun c r => if r = true then do let ok ← isTrue c env (eval c env); pure (ForInStep.yield ok) else pure (ForInStep.yield r)) (fun ok s₃ =>
            if ok = true then wpAny (model prog w) A (eval elt env) (fun x s₄ =>
              wpAny (model prog w) A (call (.builtin "list.append") [acc, x]) (fun _ s₅ => ∃ m, m < n ∧ I m s₅) (fun _ _ => False) s₄) (fun _ _ => False) s₃
            else ∃ m, m < n ∧ I m s₃) (fun _ _ => False) s₂) (fun _ _ => False) s₁) (fun _ _ => False) s₁) (fun _ _ => False) s)
    (n : Nat) (h : I n s) :
    codeAny (model prog w) A (.compLoop (.ListComp elt [⟨target, iter, ifs, 0⟩] scope pos) 0 it acc env) R s := by
  refine codeAny_loop rfl I (fun n s hI => ?_) n h
  show wpAny _ A ((compTurn (.ListComp elt [⟨target, iter, ifs, 0⟩] scope pos) 0 it acc env).onRaise (fun x => do noteFrame x env; theTreesLotGoes x)) _ _ s
  refine wpAny_noted ?_
  rw [compTurn_list]
  refine wpAny_bind (wpAny_standAt (wpAny_bind (wpAny_mono (turn n s hI) (fun r s₁ h₁ => ?_) fun _ _ h' => h'.elim)))
  cases r with
  | none => exact wpAny_pure h₁
  | some v =>
    refine wpAny_bind (wpAny_mono h₁ (fun _ s₁ h₁ => ?_) fun _ _ h' => h'.elim)
    refine wpAny_bind (wpAny_mono h₁ (fun _ s₂ h₂ => wpAny_bind (wpAny_mono h₂ (fun ok s₃ h₃ => ?_) fun _ _ h' => h'.elim)) fun _ _ h' => h'.elim)
    cases ok with
    | false => exact wpAny_pure ⟨rfl, h₃⟩
    | true =>
      exact wpAny_bind (wpAny_bind (wpAny_mono h₃ (fun x s₄ h₄ => wpAny_bind (wpAny_mono h₄ (fun _ s₅ h₅ => wpAny_pure (wpAny_pure ⟨rfl, h₅⟩)) fun _ _ h' => h'.elim)) fun _ _ h' => h'.elim))
def clOf (env : Env) : List (Str × NameKind) → List (Str × Addr) → List (Str × Addr)
  | [], cs => cs
  | (n, k) :: r, cs => if k == .free then clOf env r ((n, (env.cells.lookup n).getD 0) :: cs) else clOf env r cs
theorem closure_eq {scope : Scope} {env : Env} (h : ∀ y ∈ scope.names, y.2 = .free → ∃ c, env.cells.lookup y.1 = some c) : closureFor scope env = pure (clOf env scope.names []) := by
  have key : ∀ (names : List (Str × NameKind)) (cs : List (Str × Addr)), (∀ y ∈ names, y.2 = .free → ∃ c, env.cells.lookup y.1 = some c) →
      (forIn names cs fun (x : Str × NameKind) (r : List (Str × Addr)) => (if (x.2 == NameKind.free) = true then (do let c ← cellOf env x.1; pure (ForInStep.yield ((x.1, c) :: r))) else pure (ForInStep.yield r) : Sem (ForInStep (List (Str × Addr))))) = (pure (clOf env names cs) : Sem _) := by
    intro names
    induction names with
    | nil => intro cs _; rfl
    | cons y r ih =>
      intro cs hy
      obtain ⟨n, k⟩ := y
      rw [List.forIn_cons]
      have hr : ∀ y ∈ r, y.2 = .free → ∃ c, env.cells.lookup y.1 = some c := fun y hm => hy y (List.mem_cons_of_mem _ hm)
      cases e : (k == NameKind.free) with
      | false =>
        simp only [e, Bool.false_eq_true, if_false, pure_bind, clOf]
        exact ih cs hr
      | true =>
        obtain ⟨c, hc⟩ := hy (n, k) List.mem_cons_self (by simpa using e)
        have hc : env.cells.lookup n = some c := hc
        have ec : cellOf env n = pure c := by unfold cellOf; rw [hc]
        simp only [e, if_true, ec, pure_bind, clOf, hc, Option.getD_some]
        exact ih _ hr
  have := key scope.names [] h
  unfold closureFor
  simp only [bind_pure]
  refine Eq.trans ?_ this
  rfl
theorem clOf_sub {env : Env} : ∀ {names : List (Str × NameKind)} {cs : List (Str × Addr)}, (∀ y ∈ names, y.2 = .free → ∃ c, env.cells.lookup y.1 = some c) → (∀ x c, cs.lookup x = some c → env.cells.lookup x = some c) →
    ∀ x c, (clOf env names cs).lookup x = some c → env.cells.lookup x = some c
  | [], cs, _, hc => hc
  | (n, k) :: r, cs, hy, hc => by
    have hr : ∀ y ∈ r, y.2 = .free → ∃ c, env.cells.lookup y.1 = some c := fun y hm => hy y (List.mem_cons_of_mem _ hm)
    unfold clOf
    cases e : (k == NameKind.free) with
    | false => simp only [Bool.false_eq_true, if_false]; exact clOf_sub hr hc
    | true =>
      simp only [if_true]
      refine clOf_sub hr fun x c h => ?_
      obtain ⟨c', h'⟩ := hy (n, k) List.mem_cons_self (by simpa using e)
      have h' : env.cells.lookup n = some c' := h'
      rw [List.lookup_cons] at h
      cases hx : x == n with
      | true =>
        rw [hx] at h
        have hxn : x = n := by simpa using hx
        subst hxn
        simp only [h', Option.getD_some] at h
        rw [h', ← h]
      | false => rw [hx] at h; exact hc x c h
theorem clOf_has {env : Env} : ∀ {names : List (Str × NameKind)} {cs : List (Str × Addr)} {x : Str}, ((x, NameKind.free) ∈ names ∨ ∃ c, cs.lookup x = some c) → ∃ c, (clOf env names cs).lookup x = some c
  | [], cs, x, h => by
    rcases h with h | h
    · simp at h
    · exact h
  | (n, k) :: r, cs, x, h => by
    unfold clOf
    cases e : (k == NameKind.free) with
    | false =>
      simp only [Bool.false_eq_true, if_false]
      refine clOf_has ?_
      rcases h with h | h
      · rcases List.mem_cons.mp h with h | h
        · cases h; simp at e
        · exact .inl h
      · exact .inr h
    | true =>
      simp only [if_true]
      refine clOf_has ?_
      have two : ∀ cs : List (Str × Addr), (x = n ∨ ∃ c, cs.lookup x = some c) → ∃ c, ((n, (env.cells.lookup n).getD 0) :: cs).lookup x = some c := by
        intro cs hh
        rw [List.lookup_cons]
        cases hx : x == n with
        | true => exact ⟨_, rfl⟩
        | false =>
          rcases hh with hh | hh
          · subst hh; simp at hx
          · exact hh
      rcases h with h | h
      · rcases List.mem_cons.mp h with h | h
        · cases h; exact .inr (two cs (.inl rfl))
        · exact .inl h
      · exact .inr (two cs (.inr h))
abbrev compN (T : List Str) (F : List (Str × Nat)) : List Str := T ++ F.map (·.1)
abbrev compσ (T : List Str) (F : List (Str × Nat)) (σ : St) : St := T.map (fun _ => none) ++ F.map fun p => (σ[p.2]?).join
abbrev Cx.comp (X : Cx) (scope : Scope) (C : Addr) (N : List Str) (s : Shared) (H : Hp) (fp : List Addr) : Cx :=
  { X with N := N, s₀ := s, H₀ := H, env := compEnvC scope (clOf X.env scope.names []) C X.env, outer := X.stack, ex := fp, fn := fun _ => false, pn := [], xe := fun _ _ => False }
def FreesOk (X : Cx) (scope : Scope) : List (Str × Nat) → Prop
  | [] => True
  | p :: r => (X.N[p.2]? = some p.1 ∧ X.env.kindOf p.1 = some .cell ∧ (p.1, NameKind.free) ∈ scope.names ∧ (relabel scope X.env).names.lookup p.1 = some .cell) ∧ FreesOk X scope r
theorem FreesOk.mem {X : Cx} {scope : Scope} : ∀ {F : List (Str × Nat)}, FreesOk X scope F → ∀ p ∈ F, X.N[p.2]? = some p.1 ∧ X.env.kindOf p.1 = some .cell ∧ (p.1, NameKind.free) ∈ scope.names ∧ (relabel scope X.env).names.lookup p.1 = some .cell
  | [], _, p, h => by simp at h
  | q :: r, hF, p, h => by
    rcases List.mem_cons.mp h with e | h
    · rw [e]; exact hF.1
    · exact FreesOk.mem hF.2 p h
structure CompOk (X : Cx) (scope : Scope) (T : List Str) (F : List (Str × Nat)) : Prop where
  kind : scope.kind = .function
  nocell : ∀ y ∈ scope.names, y.2 ≠ .cell
  names : ∀ y ∈ scope.names, y.2 = .local → scope.names.lookup y.1 = some .local
  free : (scope.names.all fun y => !(y.2 == NameKind.free) || X.env.kindOf y.1 == some .cell) = true
  fr : FreesOk X scope F
theorem CompOk.cell {X : Cx} {scope : Scope} {T : List Str} {F : List (Str × Nat)} (S : CompOk X scope T F) {pins : List (Addr × Obj)} {σ : St} {H : Hp} {s : Shared} (I : Inv X pins σ H s) :
    ∀ y ∈ scope.names, y.2 = .free → ∃ c, X.env.cells.lookup y.1 = some c := fun y hy e => by
  have h := List.all_eq_true.mp S.free y hy
  rw [e] at h
  have h2 : X.env.kindOf y.1 = some .cell := by simpa using h
  exact I.ok.has y.1 (.inl h2)
def PIfs (X : Cx) (ifs : List Expr) (t : TT) : Prop :=
  ∀ (pins : List (Addr × Obj)) (s : Shared) (σ : St) (H : Hp) (Q : Bool → Hp → Prop), Inv X pins σ H s → t σ H Q →
    wpAny (model X.prog X.w) X.A (forIn ifs true fun c r => if r = true then do let ok ← isTrue c X.env (eval c X.env); pure (ForInStep.yield ok) else pure (ForInStep.yield r)) (TP X pins σ Q) X.xe s
def tYes : TT := fun _ H Q => Q true H
theorem pifs_nil {X : Cx} : PIfs X [] tYes := fun _ _ _ H _ I h => wpAny_tests_nil ⟨H, I, h⟩
theorem pifs_one {X : Cx} {c : Expr} {t : TT} (h : PT X c t) : PIfs X [c] t := fun pins s σ H Q I q => wpAny_tests_one (h pins s σ H Q I q)
def tCompB (l : Addr) (J : It) (g : TG) (tt : TT) (te : TE) (σ₀ : St) (H1 : Hp) (Q : Hp → Prop) : Prop :=
  ∃ W : Nat → Nat → St → List V → Hp → Prop, (∃ m, W 0 m σ₀ [] (upd H1 l (.lst []))) ∧ ∀ i m σ' ys H, W i m σ' ys H →
    ((J.stop i H ∧ Q H) ∨ (J.go i H ∧ ∃ N : St → List V → Hp → Prop, (∀ σ2 ys2 H2, N σ2 ys2 H2 → ∃ m', m' < m ∧ W (i + 1) m' σ2 ys2 H2) ∧ ∀ x H', J.yld i H x H' → g x σ' H' fun σ2 H2 => tt σ2 H2 fun b H3 =>
      if b = true then te σ2 H3 fun v H4 => H4 l = some (.lst ys) ∧ ys.length < sizeLine ∧ N σ2 (ys ++ [v]) (upd H4 l (.lst (ys ++ [v])))
      else N σ2 ys H3))
def tComp (T : List Str) (F : List (Str × Nat)) (wi : TI) (g : TG) (tt : TT) (te : TE) : TE := fun σ H Q =>
  wi σ H fun J H1 => ∀ l, H1 l = none → tCompB l J g tt te (compσ T F σ) H1 fun H' => Q (.ref l) H'
theorem lookup_relabel_inv {env : Env} : ∀ {names : List (Str × NameKind)} {x : Str} {k : NameKind},
    (names.map fun (n, k) => if (k == NameKind.free && env.scope.kind == .function && env.kindOf n == some .cell) then (n, NameKind.cell) else (n, k)).lookup x = some k →
      ∃ k', (x, k') ∈ names ∧ (k' = k ∨ k' = .free)
  | [], _, _, h => by simp at h
  | (n, k0) :: r, x, k, h => by
    rw [List.map_cons, List.lookup_cons] at h
    by_cases hc : (k0 == NameKind.free && env.scope.kind == .function && env.kindOf n == some .cell) = true
    · rw [if_pos hc] at h
      dsimp only at h
      have hf : k0 = .free := by
        simp only [Bool.and_eq_true] at hc
        simpa using hc.1.1
      cases hx : x == n with
      | true =>
        have hxn : x = n := by simpa using hx
        exact ⟨k0, by rw [hxn]; exact List.mem_cons_self, .inr hf⟩
      | false =>
        rw [hx] at h
        obtain ⟨k', hm, e⟩ := lookup_relabel_inv h
        exact ⟨k', List.mem_cons_of_mem _ hm, e⟩
    · rw [if_neg hc] at h
      dsimp only at h
      cases hx : x == n with
      | true =>
        rw [hx] at h
        have hxn : x = n := by simpa using hx
        have hk : k0 = k := by simpa using h
        exact ⟨k0, by rw [hxn]; exact List.mem_cons_self, .inl hk⟩
      | false =>
        rw [hx] at h
        obtain ⟨k', hm, e⟩ := lookup_relabel_inv h
        exact ⟨k', List.mem_cons_of_mem _ hm, e⟩
theorem kind_free {X : Cx} {scope : Scope} {T : List Str} {F : List (Str × Nat)} (S : CompOk X scope T F) {x : Str} (h : (relabel scope X.env).names.lookup x = some .cell ∨ (relabel scope X.env).names.lookup x = some .free) : (x, NameKind.free) ∈ scope.names := by
  rcases h with h | h
  · obtain ⟨k', hm, e | e⟩ := lookup_relabel_inv h
    · subst e; exact absurd rfl (S.nocell _ hm)
    · subst e; exact hm
  · obtain ⟨k', hm, e | e⟩ := lookup_relabel_inv h
    · subst e; exact hm
    · subst e; exact hm
section
variable {X : Cx} {elt tg iter : Expr} {ifs : List Expr} {scope : Scope} {pos : Pos} {T : List Str} {F : List (Str × Nat)} {wi : TI} {g : TG} {tt : TT} {te : TE}
theorem comp_inv {pins : List (Addr × Obj)} {σ : St} {H2 : Hp} {s2 : Shared} {h1 : Heap} {tk : Nat} {fp : List Addr} {D C : Addr} {m : Str → Option Value} (S : CompOk X scope T F) (hc : X.calm = true) (I2 : Inv X pins σ H2 s2)
    (f2 : ∀ b ∈ fp, FpOk X pins H2 b) (ho : ∀ b ∈ fp, ∃ o, s2.heap.get? b = some o) (old : ∀ b o, s2.heap.get? b = some o → h1.get? b = some o) (hD : s2.heap.objs.size ≤ D) (hC : s2.heap.objs.size ≤ C) (hDC : D ≠ C)
    (hl : ∃ n, h1.get? D = some { cls := .type "list", data := .seq #[] n }) (hns : h1.Ns C m) :
    Inv (X.comp scope C (compN T F) s2 H2 fp) [] (compσ T F σ) (upd H2 D (.lst [])) { s2 with heap := h1, toks := tk } := by
  have ce := S.cell I2
  have sub : ∀ x c, (clOf X.env scope.names []).lookup x = some c → X.env.cells.lookup x = some c := clOf_sub ce fun x c h => by simp at h
  have clt : ∀ x c, X.env.cells.lookup x = some c → c < s2.heap.objs.size := fun x c e => by obtain ⟨v, z⟩ := I2.cell x c e; exact z.lt
  have fresh : ∀ a, s2.heap.objs.size ≤ a → H2 a = none := fun a h => I2.hok.fresh h
  have flt : ∀ b ∈ fp, b < s2.heap.objs.size := fun b hb => by obtain ⟨o, e⟩ := ho b hb; exact Heap.lt_size e
  obtain ⟨nn, hlD⟩ := hl
  refine ⟨⟨I2.ok.mod, S.kind, I2.ok.glob, I2.ok.blt, hC, fun x y c e1 e2 => I2.ok.inj x y c (sub x c e1) (sub y c e2), fun x h => clOf_has (.inl (kind_free S h)), fun x c h => absurd h (by simp), I2.ok.hd, I2.ok.frames, .inl rfl,
      fun b hb => ⟨Nat.ne_of_lt (Nat.lt_of_lt_of_le (flt b hb) hC), fun x c e => (f2 b hb).2.2.2.2.1 x c (sub x c e)⟩, I2.bs, Nat.le_trans I2.ok.bsz I2.sz, fun b o e hb => ?_, fun b hb hf => ?_, I2.stack, I2.stkFree⟩,
    rfl, I2.bare, Un.laid old hD (fresh D hD), ⟨m, hns, fun i x v e1 e2 e3 => ?_⟩, fun x c e => ?_, ?_, fun x c e => ?_, fun p hp => absurd (show p ∈ ([] : List (Addr × Obj)) from hp) (by simp), I2.hok.laid old hD ⟨Nat.zero_le _, [], nn, .nil, hlD⟩, ?_⟩
  · rcases (f2 b hb).2.2.2.1 with z | z
    · exact I2.ok.noex b o e z
    · exact absurd (Nat.lt_of_lt_of_le (Heap.lt_size e) (Nat.le_trans I2.ok.bsz z)) (Nat.lt_irrefl _)
  · rcases List.mem_cons.mp (I2.stkSub b hf) with z | z
    · exact (f2 b hb).2.1 z
    · exact (f2 b hb).2.2.1 z
  · have e2 : (compσ T F σ)[i]? = some (some v) := e2
    have e1 : (compN T F)[i]? = some x := e1
    by_cases hi : i < T.length
    · rw [List.getElem?_append_left (by simpa using hi), List.getElem?_map, List.getElem?_eq_getElem hi] at e2
      simp at e2
    · rw [List.getElem?_append_right (by simpa using hi), List.length_map, List.getElem?_map] at e2
      rw [List.getElem?_append_right (by omega), List.getElem?_map] at e1
      cases q : F[i - T.length]? with
      | none => rw [q] at e1; simp at e1
      | some p =>
        rw [q] at e1 e2
        simp only [Option.map_some, Option.some.injEq] at e1 e2
        obtain ⟨k1, k2, k3, k4⟩ := FreesOk.mem S.fr p (List.mem_of_getElem? q)
        subst e1
        have e4 : σ[p.2]? = some (some v) := by
          cases z : σ[p.2]? with
          | none => rw [z] at e2; simp at e2
          | some w => rw [z] at e2; simp at e2; rw [e2]
        obtain ⟨m0, hn0, hl0⟩ := I2.loc
        obtain ⟨u, r, l⟩ := hl0 p.2 p.1 v k1 e4 (.inr (.inl k2))
        refine ⟨u, r, .inr ⟨.inl k4, ?_⟩⟩
        rcases l with ⟨l1, _⟩ | ⟨_, c, ec, z⟩
        · rw [k2] at l1; cases l1
        · obtain ⟨c', ec'⟩ := clOf_has (env := X.env) (cs := []) (.inl k3)
          have := sub _ _ ec'
          rw [ec] at this
          cases this
          exact ⟨c, ec', z.keeps old⟩
  · obtain ⟨v, z⟩ := I2.cell x c (sub x c e)
    exact ⟨v, z.keeps old⟩
  · show upd H2 D (.lst []) C = none
    rw [upd_ne (Ne.symm hDC)]
    exact fresh C hC
  · have e := sub x c e
    rw [upd_ne (Nat.ne_of_lt (Nat.lt_of_lt_of_le (clt x c e) hD))]
    exact I2.freeC x c e
  · show (compσ T F σ).length = (compN T F).length
    simp
theorem comp_out {pins : List (Addr × Obj)} {σ σ' : St} {H2 H' : Hp} {s2 s' : Shared} {h' : Heap} {fp : List Addr} {C : Addr} {N : List Str} {pl : List (Addr × Obj)} (I2 : Inv X pins σ H2 s2) (f2 : ∀ b ∈ fp, FpOk X pins H2 b) (hC : s2.heap.objs.size ≤ C)
    (J : Inv (X.comp scope C N s2 H2 fp) pl σ' H' s') (hs : Heap.SameBut C s'.heap h') : Inv X pins σ H' { s' with heap := h' } := by
  have ne : ∀ b o, s2.heap.get? b = some o → b ≠ C := fun b o e => Nat.ne_of_lt (Nat.lt_of_lt_of_le (Heap.lt_size e) hC)
  have B := J.base
  refine I2.call' (ch := fp) J.os ⟨fun b o e n hb hx => (hs.2 b (ne b o e)).trans (B.keep b o e n hb hx), fun b o e n hb hx => ?_, B.free, fun b o e hx => ?_, B.tups, B.frzs, B.tbls⟩ (fun b ob e => ?_) J.bare fun b hb => ?_
  · obtain ⟨sl, q⟩ := B.slot b o e n hb hx
    exact ⟨sl, (hs.2 b (ne b o e)).trans q⟩
  · obtain ⟨o', q⟩ := B.there b o e hx
    exact ⟨o', (hs.2 b (ne b o e)).trans q⟩
  · have hfree : H' C = none := J.free
    refine (J.hok b ob e).stay (fun c w' hc q => (hs.2 c ?_).trans q) (fun _ q => q) fun _ _ q => q
    rintro rfl
    rcases hc with rfl | hc
    · rw [hfree] at e; cases e
    · rw [hfree] at hc; cases hc
  · obtain ⟨_, z1, _, z3, z4, z5⟩ := f2 b hb
    exact ⟨z3, z1, z4, z5⟩
theorem comp_loop {pins : List (Addr × Obj)} {H2 : Hp} {s2 s3 : Shared} {it D C : Addr} {fp : List Addr} {tn : Nat → Heap → Prop} {J : It} {Qn : Hp → Prop} {RR : Result → Shared → Prop} {σ0 : St}
    (hc : X.calm = true) (hb : ∀ C s H fp, PG (X.comp scope C (compN T F) s H fp) tg g ∧ PIfs (X.comp scope C (compN T F) s H fp) ifs tt ∧ PE (X.comp scope C (compN T F) s H fp) elt te)
    (Tn : Turn X.prog X.w X.K tg J fp it tn) (st0 : tn 0 s3.heap)
    (f2 : ∀ b ∈ fp, FpOk X pins H2 b) (flt : ∀ b ∈ fp, b < s2.heap.objs.size) (hC : s2.heap.objs.size ≤ C)
    (I3 : Inv (X.comp scope C (compN T F) s2 H2 fp) [] σ0 (upd H2 D (.lst [])) s3) (hDf : ∀ b ∈ fp, b ≠ D)
    (hq : tCompB D J g tt te σ0 H2 Qn)
    (hR : ∀ σ' H' s', Inv (X.comp scope C (compN T F) s2 H2 fp) [] σ' H' s' → Qn H' → RR (.ok .next) s') :
    codeAny (model X.prog X.w) X.A (.compLoop (.ListComp elt [⟨tg, iter, ifs, 0⟩] scope pos) 0 (.ref it) (.ref D) (compEnvC scope (clOf X.env scope.names []) C X.env)) RR s3 := by
  obtain ⟨W, ⟨m0, w0⟩, turn⟩ := hq
  have sub : ∀ x c, (clOf X.env scope.names []).lookup x = some c → ∀ b ∈ fp, c ≠ b := fun x c e b hbm => (I3.ok.exf b hbm).2 x c e
  have stat : ∀ {H' : Hp}, (∀ b ∈ fp, H' b = none) → ∀ b ∈ fp, FpOk (X.comp scope C (compN T F) s2 H2 fp) [] H' b := fun hn b hbm =>
    ⟨hn b hbm, Nat.ne_of_lt (Nat.lt_of_lt_of_le (flt b hbm) hC), I3.ok.exfs b hbm, .inl hbm, fun x c e => sub x c e b hbm, fun p hp => absurd (show p ∈ ([] : List (Addr × Obj)) from hp) (by simp)⟩
  obtain ⟨hg, hi, he⟩ := hb C s2 H2 fp
  refine codeAny_compLoop_go (fun n s' => ∃ i σ' ys H', Inv (X.comp scope C (compN T F) s2 H2 fp) [] σ' H' s' ∧ tn i s'.heap ∧ (∀ b ∈ fp, H' b = none) ∧ W i n σ' ys H') ?_ m0
    ⟨0, σ0, [], _, I3, st0, fun b hbm => by rw [upd_ne (hDf b hbm)]; exact (f2 b hbm).1, w0⟩
  rintro n s4 ⟨i, σ4, ys, H4, I4, st4, fr4, w4⟩
  rcases turn i n σ4 ys H4 w4 with ⟨stop, qn⟩ | ⟨go, N, hN, step⟩
  · refine thn (Tn.done (X.comp scope C (compN T F) s2 H2 fp) rfl rfl rfl hc i [] s4 σ4 H4 _ I4 (stat fr4) st4 stop) fun r s5 ⟨hr, I5⟩ => ?_
    subst hr
    exact hR σ4 H4 s5 I5 qn
  · refine thn (Tn.item (X.comp scope C (compN T F) s2 H2 fp) rfl rfl rfl hc i [] s4 σ4 H4 _ I4 (stat fr4) st4 go) fun r s5 ⟨u, hr, h5⟩ => ?_
    subst hr
    refine thn h5 fun _ s6 ⟨x, H6, I6, r6, y6, st6, fr6⟩ => ?_
    have I6' := I6.pinned (stat fr6) (Tn.obj _ _ st6)
    refine thn (hg _ s6 σ4 H6 x u _ I6' r6 (step x H6 y6)) fun _ s7 ⟨σ7, H7, I7, q7⟩ => ?_
    refine thn (hi _ s7 σ7 H7 _ I7 q7) fun ok s8 ⟨H8, I8, q8⟩ => ?_
    have again : ∀ {σ9 : St} {H9 : Hp} {s9 : Shared} {ys9 : List V}, Inv (X.comp scope C (compN T F) s2 H2 fp) ([] ++ pinsAt fp s6.heap) σ9 H9 s9 → N σ9 ys9 H9 →
        ∃ m, m < n ∧ ∃ i σ' ys H', Inv (X.comp scope C (compN T F) s2 H2 fp) [] σ' H' s9 ∧ tn i s9.heap ∧ (∀ b ∈ fp, H' b = none) ∧ W i m σ' ys H' := fun {σ9 H9 s9 ys9} I9 hw => by
      obtain ⟨m', hm, w9⟩ := hN _ _ _ hw
      refine ⟨m', hm, i + 1, σ9, ys9, H9, I9.unpinned, Tn.keep _ _ _ st6 fun b hbm o e => (I9.pin (b, o) (List.mem_append_right _ (List.mem_append_right _ (mem_pinsAt hbm e)))).1, fun b hbm => ?_, w9⟩
      obtain ⟨o, e, d⟩ := Tn.obj _ _ st6 b hbm
      exact (I9.pin (b, o) (List.mem_append_right _ (List.mem_append_right _ (mem_pinsAt hbm e)))).2.1
    cases ok with
    | false =>
      rw [if_neg Bool.false_ne_true]
      rw [if_neg Bool.false_ne_true] at q8
      exact again I8 q8
    | true =>
      rw [if_pos rfl]
      rw [if_pos rfl] at q8
      refine thn (he _ s8 σ7 H8 _ I8 q8) fun u9 s9 ⟨v9, H9, I9, r9, hl9, hz9, w9⟩ => ?_
      refine thn (mt_append _ s9 σ7 H9 (.ref D) [v9] (.ref D) [u9] (fun _ H10 => H10 = upd H9 D (.lst (ys ++ [v9]))) I9 rfl (.cons r9 .nil) ⟨D, ys, v9, rfl, rfl, hl9, hz9, rfl⟩) fun _ s10 ⟨_, H10, I10, _, e10⟩ => ?_
      subst e10
      exact again I10 w9
theorem pe_comp (hc : X.calm = true) (S : CompOk X scope T F) (hi : PI X tg iter wi)
    (hb : ∀ C s H fp, PG (X.comp scope C (compN T F) s H fp) tg g ∧ PIfs (X.comp scope C (compN T F) s H fp) ifs tt ∧ PE (X.comp scope C (compN T F) s H fp) elt te)
    (hs : ∀ x, foldedSetIterable iter X.env x = pure x := by intro _; rfl) : PE X (.ListComp elt [⟨tg, iter, ifs, 0⟩] scope pos) (tComp T F wi g tt te) := by
  intro pins s σ H Q I h
  rw [eval_ListComp]
  refine wpAny_comprehension_free (use := none) rfl hs (closure_eq (S.cell I)) S.kind S.names (thn (hi pins s σ H _ I h) fun v s1 h1 => thn h1 fun itv s2 h2 => ?_)
  obtain ⟨it, fp, tn, J, H2, e, I2, Tn, st2, f2, hq⟩ := h2
  subst e
  have ho : ∀ b ∈ fp, ∃ o, s2.heap.get? b = some o := fun b hbm => by obtain ⟨o, e, _⟩ := Tn.obj _ _ st2 b hbm; exact ⟨o, e⟩
  refine wpAny_newObj_type (wpAny_newFunctionEnv S.nocell (by intro y hy; simp at hy) (fun h₁ hns₁ hsb₁ => ?_) S.kind)
  dsimp only at hns₁ hsb₁ ⊢
  generalize hH2 : s2.heap.push { cls := .type "list", dict := none, data := .seq ([] : List Value).toArray } = G2 at hns₁ hsb₁ ⊢
  have hCe : G2.objs.size = s2.heap.objs.size + 1 := by rw [← hH2, Heap.size_push]
  have hDC : s2.heap.objs.size ≠ G2.objs.size := by rw [hCe]; exact Nat.ne_of_lt (Nat.lt_succ_self _)
  have hCle : s2.heap.objs.size ≤ G2.objs.size := by rw [hCe]; exact Nat.le_succ _
  have old : ∀ b o, s2.heap.get? b = some o → h₁.get? b = some o := fun b o e =>
    hsb₁.extBut b o (by rw [hCe]; exact Nat.ne_of_lt (Nat.lt_succ_of_lt (Heap.lt_size e))) (Heap.get?_push_of_some _ (hH2 ▸ Heap.get?_push_of_some _ e))
  have hacc : ∃ n, h₁.get? s2.heap.objs.size = some { cls := .type "list", data := .seq #[] n } := ⟨_, hsb₁.extBut _ _ hDC (Heap.get?_push_of_some _ (hH2 ▸ Heap.get?_push_size _ rfl))⟩
  have I3 := comp_inv (D := s2.heap.objs.size) (C := G2.objs.size) (tk := s2.toks + ([] : List (Str × Value)).length) S hc I2 f2 ho old (Nat.le_refl _) hCle hDC hacc hns₁
  have flt : ∀ b ∈ fp, b < s2.heap.objs.size := fun b hbm => by obtain ⟨o, e⟩ := ho b hbm; exact Heap.lt_size e
  have st3 : tn 0 h₁ := Tn.keep _ _ _ st2 fun b _ o e => old b o e
  have hR : ∀ σ' H' s', Inv (X.comp scope G2.objs.size (compN T F) s2 H2 fp) [] σ' H' s' → Q (.ref s2.heap.objs.size) H' → compPost (model X.prog X.w) X.A X.xe none (EP X pins σ Q) (.ref s2.heap.objs.size) G2.objs.size (.ok .next) s' := fun σ' H' s' J' q => by
    obtain ⟨m', hm', _⟩ := J'.loc
    exact ⟨m', hm', fun h' hs' => ⟨.ref s2.heap.objs.size, H', comp_out I2 f2 hCle J' hs', rfl, q⟩⟩
  have lp := comp_loop (pos := pos) (iter := iter) (s3 := { s2 with heap := h₁, toks := s2.toks + ([] : List (Str × Value)).length }) (RR := compPost (model X.prog X.w) X.A X.xe none (EP X pins σ Q) (.ref s2.heap.objs.size) G2.objs.size)
    hc hb Tn st3 f2 flt hCle I3 (fun b hbm => Nat.ne_of_lt (flt b hbm)) (hq _ (I2.hok.fresh (Nat.le_refl _))) hR
  exact codeAny_compStart_list lp (Tn.self _ 0 _ _ _ st3 lp)
end
end L2
namespace L2
open PySem PySem.Spec PyProof.Rows
def Ite (K : PySem.W.Frag) (a : Addr) : It :=
  ⟨fun i H => ∃ xs x, SqL K H a xs ∧ xs[i]? = some x, fun i H v H' => ∃ p x, H p = none ∧ (∀ xs, SqL K H a xs → xs[i]? = some x) ∧ v = .ref p ∧ H' = upd H p (.tup [.int i, x]), fun i H => ∃ xs, SqL K H a xs ∧ xs.length ≤ i⟩
theorem Inv.turned2 {X : Cx} {pins : List (Addr × Obj)} {σ : St} {H : Hp} {s : Shared} {h' : Heap} {t' : Nat} {e it p : Addr} {xs : List V} {its : List Value} (I : Inv X pins σ H s)
    (k : ∀ b o, b ≠ e → b ≠ it → s.heap.get? b = some o → h'.get? b = some o) (fe : FpOk X pins H e) (fi : FpOk X pins H it) (hp : s.heap.objs.size ≤ p) (hz : xs.length ≤ sizeLine) (rv : Vals xs its) (ht : IsTup h' p its.toArray) :
    Inv X pins σ (upd H p (.tup xs)) { s with heap := h', toks := t' } := by
  have hn : H p = none := I.hok.fresh hp
  have nb : ∀ b u, H b = some u → b ≠ e ∧ b ≠ it := fun b u q => ⟨fun z => (by rw [z, fe.1] at q; cases q), fun z => (by rw [z, fi.1] at q; cases q)⟩
  have nc : ∀ b : Addr, b ∉ [e, it] → b ≠ e ∧ b ≠ it := fun b hb => ⟨fun z => hb (by simp [z]), fun z => hb (by simp [z])⟩
  have np : ∀ b o, s.heap.get? b = some o → b ≠ p := fun b o q => Nat.ne_of_lt (Nat.lt_of_lt_of_le (Heap.lt_size q) hp)
  refine I.step (g' := s.gens) (d' := s.drawn) (ch := [e, it]) (fun b hb => ?_) (fun b o _ _ hc q _ => k b o (nc b hc).1 (nc b hc).2 q) (fun b o _ _ hc q _ => ⟨o.slots, k b o (nc b hc).1 (nc b hc).2 q⟩)
    (fun b o _ q n => by rw [upd_ne (np b o q)]; exact n) (fun b o hc q => ⟨o, k b o (nc b hc).1 (nc b hc).2 q⟩)
    (fun b ys q => by rw [upd_ne (ne_of_none q hn)]; exact q) (fun b o u q => by rw [upd_ne (ne_of_none q hn)]; exact q) (fun b ps q => ⟨#[], by rw [upd_ne (ne_of_none q hn), q]; simp⟩)
    (fun m hm => ?_) (fun b u q => ?_) I.bare
  · simp only [List.mem_cons, List.not_mem_nil, or_false] at hb
    rcases hb with rfl | rfl
    · exact ⟨fe.2.2.2.1, fe.2.1, fe.2.2.2.2.1, fe.2.2.2.2.2⟩
    · exact ⟨fi.2.2.2.1, fi.2.1, fi.2.2.2.2.1, fi.2.2.2.2.2⟩
  · obtain ⟨o, es, ep, ho, r⟩ := hm
    exact ⟨o, es, ep, k _ o (Ne.symm fe.2.1) (Ne.symm fi.2.1) ho, r⟩
  · by_cases hb : b = p
    · subst hb; rw [upd_same] at q; cases q; exact ⟨hz, its, rv, ht⟩
    · rw [upd_ne hb] at q
      refine (I.hok b u q).stay (fun c v hc z => ?_) (fun c z => by rw [upd_ne (ne_of_none z hn)]; exact z) fun c ys z => by rw [upd_ne (ne_of_none z hn)]; exact z
      rcases hc with rfl | hc
      · exact k c v (nb c u q).1 (nb c u q).2 z
      · exact k c v (nb c _ hc).1 (nb c _ hc).2 z
theorem turn_enum {P : Program} {w : World} {K : PySem.W.Frag} {elts : List Expr} {x1} {tp : Pos} (a e it : Addr) (hne : e ≠ it) : Turn P w K (.Tuple elts x1 tp) (Ite K a) [e, it] e (fun i h => (∃ old, IsEnum h e it ((i : Nat) : Int) old) ∧ h.IsListIter it a i) where
  mem := by simp
  obj := fun i h st b hb => by
    obtain ⟨⟨old, h1⟩, h2⟩ := st
    simp only [List.mem_cons, List.not_mem_nil, or_false] at hb
    rcases hb with rfl | rfl
    · exact ⟨_, h1, fun v z => by have z' : Data.fields _ = Data.cell v := z; cases z'⟩
    · obtain ⟨o, q, c, d⟩ := h2
      exact ⟨o, q, fun v z => by rw [d] at z; cases z⟩
  keep := fun i h h' st k => by
    obtain ⟨⟨old, h1⟩, h2⟩ := st
    exact ⟨⟨old, k e (by simp) _ h1⟩, h2.at fun o q => k it (by simp) o q⟩
  item := by
    intro X hP hw hK hc i pins s σ H E I hf st hg
    subst hP hw hK
    obtain ⟨⟨old, he⟩, hit⟩ := st
    obtain ⟨xs, x, hq, hx⟩ := hg
    obtain ⟨its, rv, p, hz⟩ := I.list hq
    obtain ⟨u, hu, ru⟩ := rv.get hx
    have fe := hf e (by simp)
    have fi := hf it (by simp)
    have elt : e < s.heap.objs.size := Heap.lt_size he
    have ilt : it < s.heap.objs.size := by obtain ⟨o, q, _⟩ := hit; exact Heap.lt_size q
    refine wpAny_pyNext_enum_item he hit p.isList (x := u) (by simpa using hu) hne fun h1 heo hit1 ht1 hz1 hk1 => ?_
    refine ⟨_, rfl, wpAny_letOwnedTupleGo_enum heo fun h2 he2 hs2 => ?_⟩
    replace hs2 : Heap.SameBut e h1 h2 := hs2
    have k2 : ∀ b o, b ≠ e → b ≠ it → s.heap.get? b = some o → h2.get? b = some o := fun b o hbe hbi q => hs2.extBut b o hbe (hk1 b o hbe hbi q)
    have ht2 : IsTup h2 s.heap.objs.size ([Value.int i s.toks, u] : List Value).toArray := ⟨_, (hs2.2 _ (Nat.ne_of_gt elt)).trans ht1, rfl, _, rfl⟩
    have J := I.turned2 (t' := s.toks + 1) (xs := [.int i, x]) k2 fe fi (Nat.le_refl _) (by simp only [List.length_cons, List.length_nil]; rw [sizeLine_eq]; decide) (.cons ⟨_, rfl⟩ (.cons ru .nil)) ht2
    refine ⟨.ref s.heap.objs.size, _, J, rfl, ⟨_, x, I.hok.fresh (Nat.le_refl _), fun ys hy => by rw [I.list_inj hy hq]; exact hx, rfl, rfl⟩, ⟨⟨_, he2⟩, hit1.extBut hs2.extBut (Ne.symm hne)⟩, fun b hb => ?_⟩
    simp only [List.mem_cons, List.not_mem_nil, or_false] at hb
    rcases hb with rfl | rfl
    · rw [upd_ne (Nat.ne_of_lt elt)]; exact fe.1
    · rw [upd_ne (Nat.ne_of_lt ilt)]; exact fi.1
  done := by
    intro X hP hw hK hc i pins s σ H E I hf st hg
    subst hP hw hK
    obtain ⟨⟨old, he⟩, hit⟩ := st
    obtain ⟨xs, hq, hx⟩ := hg
    obtain ⟨its, rv, p, hz⟩ := I.list hq
    obtain ⟨f0, f1, f2, f3, f4, f5⟩ := hf it (by simp)
    have hl := rv.length
    exact wpAny_pyNext_enum_end (I.ok.hd hc) he hit p.isList (by simp; omega) fun h' eb => ⟨rfl, I.turned (t' := s.toks) (fun b o hb q => eb b o hb q) f0 f1 f3 f4 f5⟩
  self := fun _ _ _ _ _ st h => by
    obtain ⟨⟨old, he⟩, _⟩ := st
    exact wpAny_pyIter_enum he h
def iEnum (K : PySem.W.Frag) (ta : TA) : TI := fun σ H R => ta σ H fun vs H1 => ∃ a, vs = [.ref a] ∧ (∃ xs, H1 a = some (.lst xs)) ∧ R (Ite K a) H1
theorem pi_enum {X : Cx} {elts : List Expr} {x1} {tp : Pos} {a : Expr} {ta : TA} {p pos : Pos} (hg : Gl X "enumerate") (hm : X.mg "enumerate" = none) (hb : bootBuiltins "enumerate" = some (.type "enumerate")) (ha : PA X [a] ta) (hs : starEach [a] X.env = [(false, eval a X.env)] := by rfl) :
    PI X (.Tuple elts x1 tp) (.Call (.Name "enumerate" p) [a] [] pos) (iEnum X.K ta) := by
  intro pins s σ H R I h
  refine Call_ (ld_blt I hg hm hb (PyProof.Rows.callWith_type1 (thn (ha pos pins s σ H _ I h) fun us s1 ⟨vs, H1, I1, r1, q1⟩ => ?_) hs rfl))
  obtain ⟨l, e, ⟨xs, hl⟩, q⟩ := q1
  subst e
  cases r1 with
  | cons r rr =>
    cases rr
    cases r
    obtain ⟨z, its, n, rv, hget⟩ := I1.hok l _ hl
    refine call_enumerate_1 hget fun h' he hit hsz hk => ?_
    refine wpAny_pyIter_enum (s := { s1 with heap := h' }) he ?_
    have I2 : Inv X pins σ H1 { s1 with heap := h' } := I1.kept (t' := s1.toks) hk
    refine ⟨s1.heap.objs.size + 1, [s1.heap.objs.size + 1, s1.heap.objs.size], _, _, H1, rfl, I2, turn_enum l _ _ (Nat.succ_ne_self _), ⟨⟨_, he⟩, hit⟩, fun b hb => ?_, q⟩
    have hb' : s1.heap.objs.size ≤ b := by
      simp only [List.mem_cons, List.not_mem_nil, or_false] at hb
      rcases hb with rfl | rfl
      · exact Nat.le_succ _
      · exact Nat.le_refl _
    exact I1.fpOk hb' (I1.hok.fresh hb')
theorem for_enum {K : PySem.W.Frag} {a : Addr} {xs : List V} {g : TG} {tb : TS} {D : Ends} {σ : St} {H : Hp} (Pv : Nat → St → Hp → Prop) (h0 : Pv 0 σ H) (hl : ∀ i σ H, i ≤ xs.length → Pv i σ H → SqL K H a xs)
    (hs : ∀ i x σ H p, xs[i]? = some x → Pv i σ H → H p = none → g (.ref p) σ (upd H p (.tup [.int i, x])) fun σ2 H2 => tb { D with nx := Pv (i + 1), ct := Pv (i + 1), bk := D.nx } σ2 H2) (hd : ∀ σ H, Pv xs.length σ H → D.nx σ H) :
    ∃ W : Nat → Nat → St → Hp → Prop, (∃ m, W 0 m σ H) ∧ ∀ i m σ H, W i m σ H →
      ((Ite K a).stop i H ∧ D.nx σ H) ∨ ((Ite K a).go i H ∧ ∃ N : St → Hp → Prop, (∀ σ' H', N σ' H' → ∃ m', m' < m ∧ W (i + 1) m' σ' H') ∧ ∀ x H', (Ite K a).yld i H x H' → g x σ H' fun σ2 H2 => tb { D with nx := N, ct := N, bk := D.nx } σ2 H2) := by
  refine ⟨fun i m σ H => m = xs.length - i ∧ i ≤ xs.length ∧ Pv i σ H, ⟨xs.length, by simp, Nat.zero_le _, h0⟩, ?_⟩
  rintro i m σ H ⟨rfl, hi, p⟩
  have q := hl i σ H hi p
  by_cases hlt : i < xs.length
  · refine .inr ⟨⟨xs, xs[i], q, by simp [hlt]⟩, Pv (i + 1), fun σ' H' p' => ⟨xs.length - (i + 1), by omega, rfl, hlt, p'⟩, fun x H' y => ?_⟩
    obtain ⟨r, y', hn, hy, rfl, rfl⟩ := y
    exact hs i y' σ _ r (hy xs q) p hn
  · have e : i = xs.length := by omega
    subst e
    exact .inl ⟨⟨xs, q, Nat.le_refl _⟩, hd σ H p⟩
section
variable {X : Cx}
theorem bools_at {bs : List Bool} : ∀ {us : List Value}, Vals (bs.map V.bl) us → us = bs.map Value.bool := by
  induction bs with
  | nil => intro us r; rw [List.map_nil] at r; cases r; rfl
  | cons b r ih =>
    intro us h
    rw [List.map_cons] at h
    cases h with
    | cons h1 h2 => cases h1; rw [ih h2]; rfl
theorem range_all (bs : List Bool) : (List.range bs.length).all (fun i => bs.getD i false) = bs.all id := by
  rw [Bool.eq_iff_iff]
  simp only [List.all_eq_true, List.mem_range]
  constructor
  · intro h b hb
    obtain ⟨i, hi, e⟩ := List.mem_iff_getElem.mp hb
    have := h i hi
    rw [List.getD_eq_getElem?_getD, List.getElem?_eq_getElem hi] at this
    rw [← e]; exact this
  · intro h i hi
    rw [List.getD_eq_getElem?_getD, List.getElem?_eq_getElem hi]
    exact h _ (List.getElem_mem hi)
theorem call_all (hc : X.calm = true) : CallR X (.builtin "all") (fun xs H Q => ∃ (p : Addr) (bs : List Bool), xs = [.ref p] ∧ SqL X.K H p (bs.map V.bl) ∧ Q (.bl (bs.all id)) H) := by
  intro pins s σ H xs us Q I r h
  obtain ⟨a, bs, rfl, ha, q⟩ := h
  obtain ⟨u, rfl, ru⟩ := r.one
  cases ru
  obtain ⟨its, rv, p, hz⟩ := I.list ha
  have hits := bools_at rv
  subst hits
  have hne : a ≠ s.heap.objs.size := by
    obtain ⟨o, ho, _⟩ := p.isList
    exact Nat.ne_of_lt (Heap.lt_size ho)
  refine call_all_walk (wpAny_pyIter_list p.isList ?_)
  have W := Walks.list (prog := X.prog) (w := X.w) (A := X.A.in1) (I.ok.hd hc) s.heap.objs.size a hne (bs.map Value.bool).toArray
  refine ⟨s.heap.objs.size, _, _, _, _, _, fun i => bs.getD i false, rfl, W, ⟨⟨_, Heap.get?_push_size _ rfl, rfl, rfl⟩, ?_⟩, ?_, ?_⟩
  · obtain ⟨o, ho, r⟩ := p.isList
    exact ⟨o, Heap.get?_push_of_some _ ho, r⟩
  · intro i v s' Q' E' hv hq
    rw [List.getElem?_toArray, List.getElem?_map] at hv
    cases e : bs[i]? with
    | none => rw [e] at hv; cases hv
    | some b =>
      rw [e] at hv
      have hv : Value.bool b = v := Option.some.inj hv
      subst hv
      have hq : Q' (bs.getD i false) s' := hq
      rw [List.getD_eq_getElem?_getD, e] at hq
      exact wpAny_truthy_bool hq
  · intro h' tk hk
    refine ⟨.bl (bs.all id), H, I.kept fun b o e => hk b o (by simpa using Nat.ne_of_lt (Heap.lt_size e)) (Heap.get?_push_of_some _ e), ?_, q⟩
    have e : (bs.map Value.bool).toArray.size = bs.length := by simp
    show Value.bool _ = Value.bool _
    rw [e, range_all]
end
end L2
namespace L2
open PySem PySem.Spec PyProof.Rows
section
variable {X : Cx} {elt tg iter : Expr} {ifs : List Expr} {scope : Scope} {pos spos py : Pos} {T : List Str} {F : List (Str × Nat)} {wi : TI} {g : TG} {tt : TT} {te : TE}
end
end L2
namespace L2
open PySem PySem.Spec PyProof.Rows
def tAny (X : Cx) (st : List Stmt) : TS := fun D σ H => ∃ t, PSs X st t ∧ t D σ H
theorem pss_any {X : Cx} {st : List Stmt} : PSs X st (tAny X st) := fun pins s σ H D I h => by
  obtain ⟨t, ht, q⟩ := h
  exact ht pins s σ H D I q
end L2
namespace L2
open PySem PySem.Spec PyProof.Rows
theorem se_call {g : Expr} {xs : List Expr} {ks : List Keyword} {p : Pos} {es : List Expr} {env : Env} : starEach (.Call g xs ks p :: es) env = (false, eval (.Call g xs ks p) env) :: starEach es env := by rfl
end L2
namespace L2
open PySem PySem.Spec PyProof.Rows
end L2
namespace L2
open PySem PySem.Spec PyProof.Rows
mutual
inductive DH (H : Hp) : V → PyData → Prop
  | int (i : Int) : DH H (.int i) (.int i)
  | lst {a : Addr} {xs : List V} {ds : List PyData} : H a = some (.lst xs) → DHs H xs ds → DH H (.ref a) (.list ds)
  | tup {a : Addr} {xs : List V} {ds : List PyData} : H a = some (.tup xs) → DHs H xs ds → DH H (.ref a) (.tuple ds)
inductive DHs (H : Hp) : List V → List PyData → Prop
  | nil : DHs H [] []
  | cons {x : V} {xs : List V} {d : PyData} {ds : List PyData} : DH H x d → DHs H xs ds → DHs H (x :: xs) (d :: ds)
end
section
variable {X : Cx} {pins : List (Addr × Obj)} {σ : St} {H : Hp} {s : Shared}
mutual
theorem DH.reads {v : V} {d : PyData} (I : Inv X pins σ H s) (h : DH H v d) {u : Value} (r : RelV v u) : ∃ as, Reads s.heap u d as := by
  cases h with
  | int i => obtain ⟨t, rfl⟩ := r; exact ⟨_, .int i t⟩
  | lst e hs =>
    cases r
    obtain ⟨_, its, n, rv, hg⟩ := I.hok _ _ e
    obtain ⟨as, ra⟩ := DHs.reads I hs rv
    exact ⟨_, .list hg rfl rfl (by simpa using ra)⟩
  | tup e hs =>
    cases r
    obtain ⟨_, its, rv, o, hg, hc, n, hd⟩ := I.hok _ _ e
    obtain ⟨as, ra⟩ := DHs.reads I hs rv
    exact ⟨_, .tuple hg hc hd (by simpa using ra)⟩
theorem DHs.reads {xs : List V} {ds : List PyData} (I : Inv X pins σ H s) (h : DHs H xs ds) {us : List Value} (r : Vals xs us) : ∃ as, ReadsAll s.heap us ds as := by
  cases h with
  | nil => cases r; exact ⟨_, .nil⟩
  | cons h1 h2 =>
    cases r with
    | cons r1 r2 =>
      obtain ⟨as, ra⟩ := DH.reads I h1 r1
      obtain ⟨bs, rb⟩ := DHs.reads I h2 r2
      exact ⟨_, .cons ra rb⟩
end
end
def rEqD : R2 := fun x y H Q => ∃ d e, DH H x d ∧ DH H y e ∧ SeqAt.shaped d = true ∧ SeqAt.shaped e = true ∧ Q (.bl (PyData.eqv d e)) H
theorem op_eqD {X : Cx} (hu : X.A.units + 64 < cLine) : OpR X (compareOp .Eq) rEqD := by
  intro pins s σ H x y v u Q I rx ry h
  obtain ⟨d, e, hd, he, s1, s2, q⟩ := h
  obtain ⟨as, ra⟩ := hd.reads I rx
  obtain ⟨bs, rb⟩ := he.reads I ry
  exact eq_dataH ra rb s1 s2 hu ⟨.bl _, H, I, rfl, q⟩
theorem eqvAll_map {α : Type} [DecidableEq α] {f : α → PyData} (hf : ∀ x y, PyData.eqv (f x) (f y) = decide (x = y)) : ∀ xs ys : List α, PyData.eqvAll (xs.map f) (ys.map f) = decide (xs = ys)
  | [], [] => by simp [PyData.eqvAll]
  | [], _ :: _ => by simp [PyData.eqvAll]
  | _ :: _, [] => by simp [PyData.eqvAll]
  | x :: xs, y :: ys => by
    rw [List.map_cons, List.map_cons, PyData.eqvAll, hf, eqvAll_map hf xs ys]
    by_cases h1 : x = y <;> by_cases h2 : xs = ys <;> simp [h1, h2]
theorem eqv_int (x y : Int) : PyData.eqv (.int x) (.int y) = decide (x = y) := by
  rw [PyData.eqv]
  by_cases h : x = y <;> simp [h]
abbrev tupI (ns : List Int) : PyData := .tuple (ns.map .int)
theorem eqv_tupI (xs ys : List Int) : PyData.eqv (tupI xs) (tupI ys) = decide (xs = ys) := by
  rw [PyData.eqv]; exact eqvAll_map eqv_int xs ys
theorem lay_ints : ∀ ns : List Int, PyData.canLayAll0 (ns.map PyData.int) = true ∧ PyData.depthAll (ns.map PyData.int) = 0
  | [] => by simp [PyData.canLayAll0, PyData.depthAll]
  | n :: r => by simp [PyData.canLayAll0, PyData.canLay0, PyData.depthAll, PyData.depth, lay_ints r]
theorem shaped_tupI (ns : List Int) : SeqAt.shaped (tupI ns) = true := by
  simp [SeqAt.shaped, PyData.canLay0, PyData.depth, lay_ints ns]
theorem dhs_ints {H : Hp} : ∀ ns : List Int, DHs H (ns.map V.int) (ns.map PyData.int)
  | [] => .nil
  | n :: r => .cons (.int n) (dhs_ints r)
theorem dh_tupI {H : Hp} {a : Addr} {ns : List Int} (h : H a = some (.tup (ns.map V.int))) : DH H (.ref a) (tupI ns) := .tup h (dhs_ints ns)
end L2
namespace L2
open PySem PySem.Spec PyProof.Rows
theorem lri_nolen : typeLookup (.type "list_reverseiterator") "__len__" = pure none := by rw [typeLookup_type, builtinLookup_eq_fast]; kernel_rfl
theorem lri_hint : typeLookup (.type "list_reverseiterator") "__length_hint__" = pure (some (.builtin "list_reverseiterator.__length_hint__")) := by rw [typeLookup_type, builtinLookup_eq_fast]; kernel_rfl
section
variable {prog : Program} {w : World} {A : Around} {s : Shared} {R : Result → Shared → Prop} {I : Addr} {fp wr : List Addr} {G : Array GenState → Array GenState → Prop} {n : Nat} {P : Nat → Value → Prop} {St : Nat → Shared → Prop}
theorem extend_rev (W : WalksS prog w A.in1 I fp wr G n P St) (hT : ∀ i s, St i s → s.TypeIs (.ref I) "list_reverseiterator") (S : Addr) (res : Value) (c₀ : Nat) (hst : St 0 s) (hSf : S ∉ fp) (hI : I ∈ fp)
    (hS : s.heap.get? S = some { cls := .type "list", data := .seq #[] c₀ })
    (hR : ∀ s' acc' c', Moved (S :: wr) G s s' → s'.heap.get? S = some { cls := .type "list", dict := none, data := .seq acc' c', slots := #[] } → ItemsOf P acc' n → R (.ok (.ret res)) s') (hn : n ≤ sizeLine) :
    wpAny (model prog w) A.in1 (Builtin.List.listExtendWith (.ref S) (.ref I) res)
      (fun fin s' => match fin with | .done f => R (.ok f) s' | .again c' => c'.quiet = true ∧ codeAny (model prog w) A c' R s') (fun e s' => R (.error e) s') s := by
  have hSI : S ≠ I := fun e => hSf (e ▸ hI)
  have h1 : Builtin.List.listSameRef (.ref S) (.ref I) = false := by simp [Builtin.List.listSameRef, hSI]
  unfold Builtin.List.listExtendWith
  refine wpAny_bind (wpAny_typeOf (hT 0 _ hst) ?_)
  rw [if_neg (by rw [h1]; decide)]
  refine wpAny_bind (W.self 0 _ _ _ hst ?_)
  refine wpAny_bind (wpAny_holding ?_)
  unfold Builtin.List.listLengthHint
  refine wpAny_bind (wpAny_specialOf (hT 0 _ hst) lri_nolen ?_)
  show wpAny _ A.in1 (specialOf (Value.ref I) (Str.ofString "__length_hint__") >>= _) _ _ _
  refine wpAny_bind (wpAny_specialOf (hT 0 _ hst) lri_hint ?_)
  generalize hid : ("list_reverseiterator.__length_hint__" : String) = id0
  wp_delta
  rw [show splitId id0 = some ("list_reverseiterator", "__length_hint__") from by subst hid; decide +kernel]
  subst hid
  refine wpAny_bind (wpAny_isInstance (b := true) (hT 0 _ hst) (by rw [isSubtype_type]; kernel_rfl) ?_)
  refine wpAny_pure ?_
  rw [if_neg (by decide)]
  exact wpAny_pure ⟨plainId_quiet F.plain_extend_loop _, codeAny_extend_loopS W hn _ hSf _ n 0 _ _ _ rfl (Nat.zero_le _) hst hS (ItemsOf.nil P) fun s' acc' c' hm hS' hacc => hR s' acc' c' hm hS' hacc⟩
theorem init_rev (W : WalksS prog w A.in1 I fp wr G n P St) (hT : ∀ i s, St i s → s.TypeIs (.ref I) "list_reverseiterator") (S : Addr) (hst : St 0 s) (hSf : S ∉ fp) (hI : I ∈ fp)
    (hS : s.heap.get? S = some { cls := .type "list", data := .seq #[] })
    (hR : ∀ s' acc' c', Moved (S :: wr) G s s' → s'.heap.get? S = some { cls := .type "list", dict := none, data := .seq acc' c', slots := #[] } → ItemsOf P acc' n → R (.ok (.ret .none)) s') (hn : n ≤ sizeLine) :
    wpAny (model prog w) A.in1 (Builtin.«list.__init__» ⟨[.ref S, .ref I], []⟩)
      (fun fin s' => match fin with | .done f => R (.ok f) s' | .again c' => c'.quiet = true ∧ codeAny (model prog w) A c' R s') (fun e s' => R (.error e) s') s := by
  show wpAny _ A.in1 (do let old ← Builtin.List.listItems (.ref S); Builtin.List.listUpdate (.ref S) (fun _ => #[]); letGo old.toList.reverse; Builtin.List.listExtendWith (.ref S) (.ref I) .none) _ _ s
  refine wpAny_bind ?_
  unfold Builtin.List.listItems
  refine wpAny_bind (wpAny_seqItems hS rfl (wpAny_pure ?_))
  show wpAny _ A.in1 (updateSeq S (fun _ => #[]) >>= fun _ => letGo (#[] : Array Value).toList.reverse >>= fun _ => Builtin.List.listExtendWith (.ref S) (.ref I) .none) _ _ s
  refine wpAny_bind (wpAny_updateSeq hS rfl ?_)
  have hS₂ := Heap.get?_update_self (Obj.mapSeq (fun _ => (#[] : Array Value))) hS rfl
  have oth : ∀ b o, b ≠ S → s.heap.get? b = some o → (s.heap.update S (Obj.mapSeq (fun _ => (#[] : Array Value)))).get? b = some o :=
    fun b o hb e => (Heap.get?_update_other _ _ (Ne.symm hb)).trans e
  refine wpAny_bind (wpAny_letGo ?_)
  refine extend_rev (hn := hn) W hT S .none _ (W.frame 0 s _ s.toks hst (Nat.le_refl _) fun b hb o e => oth b o (fun h => hSf (h ▸ hb)) e) hSf hI hS₂ fun s' acc' c' hm hS' hacc => ?_
  exact hR s' acc' c' (Moved.trans W.gtrans ((Moved.refl W.grefl).then_heap (Nat.le_refl _) fun b o hb e => oth b o (fun h => hb (h ▸ List.mem_cons_self)) e) hm) hS' hacc
end
theorem call_list_rev {prog : Program} {w : World} {A : Around} {E : Value → Shared → Prop} {s : Shared} {I : Addr} {fp wr : List Addr} {G : Array GenState → Array GenState → Prop} {n : Nat} {P : Nat → Value → Prop} {St : Nat → Shared → Prop} {Q : Value → Shared → Prop}
    (W : WalksS prog w A.in1.in1 I fp wr G n P St) (hT : ∀ i s, St i s → s.TypeIs (.ref I) "list_reverseiterator") (hst : St 0 s) (hfp : ∀ b ∈ fp, b < s.heap.objs.size) (hI : I ∈ fp)
    (hQ : ∀ s' acc' c', Moved (s.heap.objs.size :: wr) G { s with heap := s.heap.push { cls := .type "list", data := .seq #[] } } s' →
      s'.heap.get? s.heap.objs.size = some { cls := .type "list", dict := none, data := .seq acc' c', slots := #[] } → ItemsOf P acc' n → Q (.ref s.heap.objs.size) s') (hn : n ≤ sizeLine) :
    wpAny (model prog w) A (call (.type "list") [.ref I]) Q E s := by
  have hSf : s.heap.objs.size ∉ fp := fun hm => Nat.lt_irrefl _ (hfp _ hm)
  refine callType_codes (Q₁ := fun obj s₁ => obj = .ref s.heap.objs.size ∧ s₁ = { s with heap := s.heap.push { cls := .type "list", data := .seq #[] } }) F.called_list (F.typeCall_list_1 _) F.entry_list_init
    (code_list_new _ ⟨rfl, rfl⟩) fun obj s₁ h₁ => ?_
  obtain ⟨rfl, rfl⟩ := h₁
  have hS : (s.heap.push { cls := .type "list", data := .seq #[] }).get? s.heap.objs.size = some { cls := .type "list", data := .seq #[] } := Heap.get?_push_size _ rfl
  refine ⟨⟨_, hS, rfl⟩, F.args_list_init_2 _ _, init_rev (A := A.in1) (hn := hn) W hT _ (W.frame 0 s _ s.toks hst (Nat.le_refl _) fun b _ o e => Heap.get?_push_of_some _ e) hSf hI hS fun s' acc' c' hm hS' hacc => ?_⟩
  exact ⟨rfl, hQ s' acc' c' hm hS' hacc⟩
def tListRev (te : TE) : TE := fun σ H Q => te σ H fun x H1 => ∃ a xs, x = .ref a ∧ H1 a = some (.lst xs) ∧ ∀ p, H1 p = none → Q (.ref p) (upd H1 p (.lst xs.reverse))
theorem rev_vals {xs : List V} {its : List Value} {acc : Array Value} (r : Vals xs its) (h : ItemsOf (fun i v => its.toArray[its.toArray.size - 1 - i]? = some v) acc its.toArray.size) : Vals xs.reverse acc.toList := by
  have e : acc.toList = its.reverse := by
    apply List.ext_getElem?
    intro i
    have hs : acc.size = its.length := by rw [h.1, List.size_toArray]
    by_cases hi : i < its.length
    · have hi2 : i < acc.size := by omega
      have hg : acc[i]? = some acc[i] := Array.getElem?_eq_getElem hi2
      have := h.2 i _ hg
      rw [List.size_toArray, List.getElem?_toArray] at this
      rw [Array.getElem?_toList, hg, List.getElem?_reverse hi, this]
    · rw [Array.getElem?_toList, Array.getElem?_eq_none (by omega), List.getElem?_eq_none (by rw [List.length_reverse]; omega)]
  rw [e]
  exact r.reverse
theorem pe_listRev {X : Cx} {e : Expr} {te : TE} {p p2 pos pos2 : Pos} (hc : X.calm = true) (he : PE X e te) (hgL : Gl X "list") (hmL : X.mg "list" = none) (hgR : Gl X "reversed") (hmR : X.mg "reversed" = none)
    (hs : starEach [e] X.env = [(false, eval e X.env)] := by rfl) : PE X (.Call (.Name "list" p) [.Call (.Name "reversed" p2) [e] [] pos2] [] pos) (tListRev te) := by
  intro pins s σ H Q I h
  refine wpAny_Call_Name_kw (ld_blt I hgL hmL PyProof.Rows.boot_list ?_)
  refine PyProof.Rows.callWith_type1 (e := .Call (.Name "reversed" p2) [e] [] pos2) (rest := []) ?_ se_call (by rfl)
  rw [se_call]
  show wpAny _ _ (spliced ((false, eval (.Call (.Name "reversed" p2) [e] [] pos2) X.env) :: backTo pos (starEach [] X.env))) _ _ s
  refine Calls.spliced_cons ?_
  refine wpAny_Call_Name_kw (ld_blt I hgR hmR PyProof.Rows.boot_reversed ?_)
  refine PyProof.Rows.callWith_type1 (e := e) (rest := []) ?_ hs (by rfl)
  rw [hs]
  show wpAny _ _ (spliced ((false, eval e X.env) :: backTo pos2 [])) _ _ s
  refine Calls.spliced_cons (thn (he pins s σ H _ I h) fun u s1 ⟨x, H1, I1, r1, a, xs, ex, ha, q⟩ => ?_)
  subst ex
  cases r1
  refine Calls.spliced_nil ?_
  obtain ⟨its, r, ht, hz⟩ := I1.list (SqL.of ha)
  have hlen := r.length
  refine call_reversed_list ht.isList ?_
  have I2 : Inv X pins σ H1 { s1 with heap := s1.heap.push (revObj a ((its.toArray.size : Int) - 1)) } := I1.kept (t' := s1.toks) fun b ob q => Heap.get?_push_of_some _ q
  refine Calls.spliced_nil ?_
  have hne : a ≠ s1.heap.objs.size := by
    obtain ⟨o, ho, _⟩ := ht.isList
    exact Nat.ne_of_lt (Heap.lt_size ho)
  have W := (Walks.listRev (prog := X.prog) (w := X.w) (A := X.A.in1.in1) (I1.ok.hd hc) s1.heap.objs.size a hne its.toArray).toS
  refine call_list_rev W (fun i s st => st.2.1.typeIs) ⟨Nat.zero_le _, ⟨_, Heap.get?_push_size _ rfl, rfl, by
    show Data.fields #[Value.ref a, rawInt ((its.toArray.size : Int) - 1)] = Data.fields #[Value.ref a, rawInt ((its.toArray.size : Int) - 1 - ((0 : Nat) : Int))]
    rw [Int.natCast_zero, Int.sub_zero]⟩, ?_⟩ (fun b hb => ?_) (by simp) (fun s' acc' c' hm hS' hacc => ?_) (by rw [List.size_toArray, ← hlen]; exact hz)
  · obtain ⟨o, ho, r⟩ := ht.isList
    exact ⟨o, Heap.get?_push_of_some _ ho, r⟩
  · simp only [List.mem_cons, List.not_mem_nil, or_false] at hb
    rcases hb with rfl | rfl
    · show s1.heap.objs.size < (s1.heap.push _).objs.size
      rw [Heap.size_push]; exact Nat.lt_succ_self _
    · obtain ⟨o, ho, _⟩ := ht.isList
      exact Heap.lt_size (Heap.get?_push_of_some _ ho)
  · have e2 := Moved.eq_with hm
    generalize hnew : ({ s1 with heap := s1.heap.push (revObj a ((its.toArray.size : Int) - 1)) } : Shared) = s2 at *
    have hit : s2.heap.objs.size = s1.heap.objs.size + 1 := by rw [← hnew]; exact Heap.size_push ..
    have fresh : H1 s2.heap.objs.size = none := I2.hok.fresh (Nat.le_refl _)
    have fit : FpOk X pins H1 s1.heap.objs.size := I1.fpOk (Nat.le_refl _) (I1.hok.fresh (Nat.le_refl _))
    have kp : ∀ b o, b ≠ s1.heap.objs.size → s2.heap.get? b = some o → s'.heap.get? b = some o := fun b o hb q => by
      refine hm.heap b o (fun hmem => ?_) (Heap.get?_push_of_some _ q)
      rcases List.mem_cons.mp hmem with z | z
      · exact Nat.lt_irrefl _ (Nat.lt_of_lt_of_le (Heap.lt_size q) (by rw [z]; exact Nat.le_refl _))
      · exact hb (by simpa using z)
    have np : ∀ b o, s2.heap.get? b = some o → b ≠ s2.heap.objs.size := fun b o q => Nat.ne_of_lt (Heap.lt_size q)
    have J : Inv X pins σ (upd H1 s2.heap.objs.size (.lst xs.reverse)) { s2 with heap := s'.heap, toks := s'.toks } := by
      refine I2.step (g' := s2.gens) (d' := s2.drawn) (ch := [s1.heap.objs.size]) (fun b hb => ?_) (fun b o _ _ hcn q _ => kp b o (by simpa using hcn) q) (fun b o _ _ hcn q _ => ⟨o.slots, kp b o (by simpa using hcn) q⟩)
        (fun b o _ q n => by rw [upd_ne (np b o q)]; exact n) (fun b o hcn q => ⟨o, kp b o (by simpa using hcn) q⟩)
        (fun b ys q => by rw [upd_ne (ne_of_none q fresh)]; exact q) (fun b o u q => by rw [upd_ne (ne_of_none q fresh)]; exact q) (fun b ps q => ⟨#[], by rw [upd_ne (ne_of_none q fresh), q]; simp⟩)
        (fun m hm' => ?_) (fun b u q => ?_) I2.bare
      · have e : b = s1.heap.objs.size := by simpa using hb
        subst e
        exact ⟨fit.2.2.2.1, fit.2.1, fit.2.2.2.2.1, fit.2.2.2.2.2⟩
      · obtain ⟨o, es, ep, ho, rr⟩ := hm'
        exact ⟨o, es, ep, kp _ o (Ne.symm fit.2.1) ho, rr⟩
      · by_cases hb : b = s2.heap.objs.size
        · subst hb
          rw [upd_same] at q
          cases q
          refine ⟨by rw [List.length_reverse]; exact hz, acc'.toList, c', rev_vals r hacc, ?_⟩
          simpa using hS'
        · rw [upd_ne hb] at q
          refine (I2.hok b u q).stay (fun c v hcc z => ?_) (fun c z => by rw [upd_ne (ne_of_none z fresh)]; exact z) fun c ys z => by rw [upd_ne (ne_of_none z fresh)]; exact z
          refine kp c v (fun zz => ?_) z
          rcases hcc with z1 | z1
          · rw [← z1, zz, fit.1] at q; cases q
          · rw [zz, fit.1] at z1; cases z1
    rw [e2]
    exact ⟨.ref s2.heap.objs.size, _, J, rfl, q _ fresh⟩
end L2
namespace L2
open PySem PySem.Spec PyProof.Rows
structure Def (K : PySem.W.Frag) (mg : Str → Option Value) (x : Str) (st : Stmt) (ps : List Str) : Prop where
  ex : ∃ f fd, Fun K x x st f fd ∧ mg x = some (.ref f) ∧ Binds K fd ps []
structure Cal (P : Program) (w : World) (K : PySem.W.Frag) (mg : Str → Option Value) (base : Heap) (k : Nat) (x : Str) (ps : List Str) (sp : Sp) : Prop where
  ex : ∃ f fd, FnOk P w K mg base CX0 k f fd ps sp ∧ mg x = some (.ref f) ∧ PySem.W.keepIn K (.ref f) = true ∧ Binds K fd ps []
section
variable {P : Program} {w : World} {K : PySem.W.Frag} {mg : Str → Option Value} {base : Heap} {x : Str} {st : Stmt} {ps N : List Str} {sp : Sp} {k j : Nat}
theorem Def.ok (D : Def K mg x st ps) (S : FnScope N ps (defScope st)) (len : ∀ vs H Q E, sp vs H Q E → vs.length = ps.length)
    (hbody : ∀ (f : Addr) (cdv : Value) (A : Around) (outer : List Env) (s : Shared) (H : Hp) (vs : List V) (Q : VK) (E : XK), Room k (A.deeper (envOfC x (defScope st) s.heap.objs.size f cdv)) → sp vs H Q E →
      ∃ t, PSs (cxOf CX0 P w K mg base N x (defScope st) f cdv A outer s H E).nox (defBody st) t ∧ t { nx := fun _ H' => Q .non H', rt := Q } (start N vs) H) : Cal P w K mg base (k + 1) x ps sp := by
  obtain ⟨f, fd, F, hm, hb⟩ := D.ex
  exact ⟨f, fd, F.ok S len (hbody f), hm, F.kp, hb⟩
theorem Cal.mono (C : Cal P w K mg base j x ps sp) (h : j ≤ k) : Cal P w K mg base k x ps sp := by
  obtain ⟨f, fd, F, hm, hk, hb⟩ := C.ex
  exact ⟨f, fd, F.mono h, hm, hk, hb⟩
theorem Cal.imp {sp' : Sp} (C : Cal P w K mg base k x ps sp) (h : ∀ vs H Q E, sp' vs H Q E → sp vs H Q E) : Cal P w K mg base k x ps sp' := by
  obtain ⟨f, fd, F, hm, hk, hb⟩ := C.ex
  exact ⟨f, fd, F.imp h, hm, hk, hb⟩
end
section
variable {X : Cx} {x : Str} {ps : List Str} {sp : Sp} {k : Nat} {p pos : Pos} {e : Expr} {es : List Expr} {t : TA}
theorem pe_fn (C : Cal X.prog X.w X.K X.mg X.base k x ps sp) (hr : Room k X.A) (ha : PA X (e :: es) t) (hg : Gl X x := by rfl) (hdb : (x == ("__debug__" : Str)) = false := by decide) (he : starEach (e :: es) X.env = (false, eval e X.env) :: starEach es X.env := by rfl)
    (hpl : (backTo pos (starEach es X.env)).any (·.1) = false := by rfl) : PE X (.Call (.Name x p) (e :: es) [] pos) (tCall sp [] E0 t) := by
  obtain ⟨f, fd, F, hm, hk, hb⟩ := C.ex
  exact pe_call F hr hg hm hk hb .nil pass0 ha hdb he hpl
end
structure Bn (mg : Str → Option Value) : Prop where
  len : mg "len" = none
  range : mg "range" = none
  list : mg "list" = none
  all : mg "all" = none
  isinstance : mg "isinstance" = none
  int : mg "int" = none
  bool : mg "bool" = none
  tuple : mg "tuple" = none
  min : mg "min" = none
  max : mg "max" = none
  enumerate : mg "enumerate" = none
  reversed : mg "reversed" = none
theorem map_get {ns : List Int} {i : Nat} {y : V} (h : (ns.map V.int)[i]? = some y) : ∃ z, ns[i]? = some z ∧ y = V.int z := by
  rw [List.getElem?_map] at h
  cases e : ns[i]? with
  | none => rw [e] at h; cases h
  | some z => rw [e] at h; exact ⟨z, rfl, (Option.some.inj h).symm⟩
theorem map_at {ns : List Int} {i : Nat} {z : Int} (h : ns[i]? = some z) : (ns.map V.int)[i]? = some (V.int z) := by
  rw [List.getElem?_map, h]; rfl
end L2
namespace Law
open PySem L2 SA
seal PE PA PT PW PS PSs PG PGs PI PC PIfs PSet OpR UnR CallR IxR SlR PO
section
variable {P : Program} {w : World} {K : PySem.W.Frag} {mg : Str → Option Value} {base : Heap}
def spCell (K : PySem.W.Frag) : Sp := fun vs H Q _ => ∃ (a : Addr) (ns : List Int) (k : Nat), vs = [.ref a, .int k] ∧ SqL K H a (ns.map V.int) ∧ Q (.int (ns.getD k 0)) H
def draw (c k b : Int) : Int := (((((c % 2147483647 + 977 * k + 1) * 48271 % 2147483647) * ((c % 2147483647 + 977 * k + 1) * 48271 % 2147483647) % 2147483629 + 40692 * (k + 3)) * 69621 % 2147483647) / 8) % b
theorem draw_range (c k : Int) {b : Int} (hb : 0 < b) : 0 ≤ draw c k b ∧ draw c k b < b := ⟨Int.emod_nonneg _ (by omega), Int.emod_lt_of_pos _ hb⟩
def spDraw : Sp := fun vs H Q _ => ∃ (c k b : Int), vs = [.int c, .int k, .int b] ∧ 0 < b ∧ Q (.int (draw c k b)) H
def spCheck : Sp := fun vs H Q _ => ∃ (n g : Int), vs = [.int n, .int g] ∧ 1 ≤ n ∧ n ≤ g ∧ Q .non H
def spCan : Sp := fun vs H Q _ => ∃ (n : Int), vs = [.int n] ∧ 1 ≤ n ∧ n ≤ 400 ∧ Q (.bl (decide (n % 4 ≤ 1))) H
def spFirst : Sp := fun vs H Q _ => ∃ (n s : Int), vs = [.int n, .int s] ∧ Q (.int (fp n s)) H
theorem ixN_nat {n j : Nat} (h : j < n) : ixN n (j : Int) = some j := by
  unfold ixN
  rw [if_pos (by omega), if_pos (by omega)]; simp
theorem map_put (row : List Int) (n p : Nat) : ((row.map V.int).set p (V.int n)).set (p + n) (V.int n) = (put row n p).map V.int := by
  unfold put
  rw [List.map_set, List.map_set]
def spWith (K : PySem.W.Frag) : Sp := fun vs H Q _ => ∃ (a : Addr) (row : List Int) (n p : Nat), vs = [.ref a, .int n, .int p] ∧ SqL K H a (row.map V.int) ∧ p + n < row.length ∧
  ∀ l H', H l = none → H' l = some (.lst ((put row n p).map V.int)) → Same H H' → Q (.ref l) H'
theorem map_rep (n : Nat) : (List.replicate n [V.int 0]).flatten = (List.replicate n (0 : Int)).map V.int := by
  induction n with
  | zero => rfl
  | succ n ih => rw [List.replicate_succ, List.flatten_cons, ih, List.replicate_succ]; rfl
def spRowOf : Sp := fun vs H Q _ => ∃ (s : Nat), vs = [.int s] ∧ 1 ≤ s ∧ s ≤ 400 ∧ s % 4 ≤ 1 ∧ ∀ l H', H l = none → H' l = some (.lst ((rowOf s).map V.int)) → Same H H' → Q (.ref l) H'
structure Found (H₀ H : Hp) (d : Addr) (pre : List Int) (kvs : List (Key × V)) : Prop where
  dc : H d = some (.dK kvs)
  nd : H₀ d = none
  sm : Same H₀ H
  no : ∀ n : Int, plc pre 0 n = [] → valV kvs (Sum.inl n : Key) = none
  ye : ∀ n : Int, plc pre 0 n ≠ [] → ∃ l, valV kvs (Sum.inl n : Key) = some (.ref l) ∧ H₀ l = none ∧ H l = some (.lst ((plc pre 0 n).map V.int))
  ij : ∀ (n m : Int) l, valV kvs (Sum.inl n : Key) = some (.ref l) → valV kvs (Sum.inl m : Key) = some (.ref l) → n = m
  ln : kvs.length ≤ pre.length
theorem found_nil {H₀ : Hp} {d : Addr} (h : H₀ d = none) : Found H₀ (upd H₀ d (.dK [])) d [] [] :=
  ⟨upd_same, h, fun b o e => by rw [upd_ne (ne_of_none e h)]; exact e, fun n _ => rfl, fun n h => absurd rfl h, fun n m l e => (by cases e), Nat.le_refl _⟩
theorem Found.upd_new {H₀ H : Hp} {d : Addr} {pre : List Int} {kvs : List (Key × V)} (F : Found H₀ H d pre kvs) {p : Addr} {o : HO} (hp : H p = none) : Found H₀ (upd H p o) d pre kvs :=
  ⟨by rw [upd_ne (ne_of_none F.dc hp)]; exact F.dc, F.nd, fun b o' e => by rw [upd_ne (ne_of_none (F.sm b o' e) hp)]; exact F.sm b o' e, F.no,
    fun n hn => by
      obtain ⟨l, h1, h2, h3⟩ := F.ye n hn
      exact ⟨l, h1, h2, by rw [upd_ne (ne_of_none h3 hp)]; exact h3⟩, F.ij, F.ln⟩
theorem Found.app {H₀ H : Hp} {d : Addr} {pre : List Int} {kvs : List (Key × V)} (F : Found H₀ H d pre kvs) {x : Int} {l : Addr} (hx : plc pre 0 x ≠ []) (hl : valV kvs (Sum.inl x : Key) = some (.ref l)) :
    Found H₀ (upd H l (.lst ((plc pre 0 x).map V.int ++ [V.int pre.length]))) d (pre ++ [x]) kvs := by
  obtain ⟨l', h1, h2, h3⟩ := F.ye x hx
  rw [hl] at h1
  have e : l = l' := by simpa using h1
  subst e
  have nd : d ≠ l := ne_of F.dc h3 (by intro z; cases z)
  have pe : ∀ n : Int, n ≠ x → plc (pre ++ [x]) 0 n = plc pre 0 n := fun n hn => by rw [plc_snoc, if_neg (Ne.symm hn), List.append_nil]
  have px : plc (pre ++ [x]) 0 x = plc pre 0 x ++ [(pre.length : Int)] := by rw [plc_snoc, if_pos rfl]
  refine ⟨by rw [upd_ne nd]; exact F.dc, F.nd, fun b o q => ?_, fun n hn => ?_, fun n hn => ?_, F.ij, by rw [List.length_append]; have := F.ln; omega⟩
  · rw [upd_ne (ne_of_none q h2)]; exact F.sm b o q
  · by_cases hnx : n = x
    · subst hnx; rw [px] at hn; simp at hn
    · rw [pe n hnx] at hn; exact F.no n hn
  · by_cases hnx : n = x
    · subst hnx
      refine ⟨l, hl, h2, ?_⟩
      rw [upd_same, px, List.map_append]; rfl
    · rw [pe n hnx] at hn ⊢
      obtain ⟨l2, g1, g2, g3⟩ := F.ye n hn
      refine ⟨l2, g1, g2, ?_⟩
      rw [upd_ne (fun z => hnx (F.ij n x l (by rw [← z]; exact g1) hl))]; exact g3
theorem Found.put {H₀ H : Hp} {d : Addr} {pre : List Int} {kvs : List (Key × V)} (F : Found H₀ H d pre kvs) {x : Int} {l : Addr} (hx : plc pre 0 x = []) (hn : H l = none) (hz : H₀ l = none) :
    Found H₀ (upd (upd (upd H l (.lst [])) d (.dK (putK kvs (Sum.inl x) (.ref l)))) l (.lst [V.int pre.length])) d (pre ++ [x]) (putK kvs (Sum.inl x) (.ref l)) := by
  have nd : d ≠ l := ne_of_none F.dc hn
  have pe : ∀ n : Int, n ≠ x → plc (pre ++ [x]) 0 n = plc pre 0 n := fun n hn => by rw [plc_snoc, if_neg (Ne.symm hn), List.append_nil]
  have px : plc (pre ++ [x]) 0 x = plc pre 0 x ++ [(pre.length : Int)] := by rw [plc_snoc, if_pos rfl]
  have nk : ∀ n : Int, n ≠ x → (Sum.inl n : Key) ≠ Sum.inl x := fun n h e => h (by injection e)
  have old : ∀ (n : Int) l2, valV kvs (Sum.inl n : Key) = some (.ref l2) → l2 ≠ l := fun n l2 e z => by
    by_cases q : plc pre 0 n = []
    · rw [F.no n q] at e; cases e
    · obtain ⟨l3, g1, _, g3⟩ := F.ye n q
      rw [e] at g1
      have e2 : l2 = l3 := by simpa using g1
      subst e2; subst z
      rw [g3] at hn; cases hn
  refine ⟨?_, F.nd, fun b o q => ?_, fun n hq => ?_, fun n hq => ?_, fun n m l2 e1 e2 => ?_, ?_⟩
  · rw [upd_ne nd, upd_same]
  · rw [upd_ne (ne_of_none q hz), upd_ne (ne_of_none q F.nd), upd_ne (ne_of_none q hz)]; exact F.sm b o q
  · by_cases hnx : n = x
    · subst hnx; rw [px] at hq; simp at hq
    · rw [pe n hnx] at hq
      rw [valV_put, if_neg (nk n hnx)]; exact F.no n hq
  · by_cases hnx : n = x
    · subst hnx
      refine ⟨l, by rw [valV_put, if_pos rfl], hz, ?_⟩
      rw [upd_same, px, hx]; rfl
    · rw [pe n hnx] at hq ⊢
      obtain ⟨l2, g1, g2, g3⟩ := F.ye n hq
      refine ⟨l2, by rw [valV_put, if_neg (nk n hnx)]; exact g1, g2, ?_⟩
      have n1 : l2 ≠ l := old n l2 g1
      have n2 : l2 ≠ d := fun z => by rw [z, F.dc] at g3; cases g3
      rw [upd_ne n1, upd_ne n2, upd_ne n1]; exact g3
  · rw [valV_put] at e1 e2
    by_cases h1 : n = x
    · by_cases h2 : m = x
      · rw [h1, h2]
      · rw [if_pos (by rw [h1])] at e1
        rw [if_neg (nk m h2)] at e2
        have e3 : l = l2 := by simpa using e1
        exact absurd e3.symm (old m l2 e2)
    · rw [if_neg (nk n h1)] at e1
      by_cases h2 : m = x
      · rw [if_pos (by rw [h2])] at e2
        have e3 : l = l2 := by simpa using e2
        exact absurd e3.symm (old n l2 e1)
      · rw [if_neg (nk m h2)] at e2
        exact F.ij n m l2 e1 e2
  · have := length_putK kvs (Sum.inl x : Key) (V.ref l)
    rw [List.length_append]
    have := F.ln
    simp only [List.length_cons, List.length_nil]
    omega
def spFound : Sp := fun vs H Q _ => ∃ (a : Addr) (row : List Int), vs = [.ref a] ∧ H a = some (.lst (row.map V.int)) ∧ row.length ≤ 1000 ∧ ∀ d kvs H', Found H H' d row kvs → Q (.ref d) H'
def sw (n : Int) : List Int → Bool
  | [p, q] => decide (q - p = n)
  | _ => false
def spSw (K : PySem.W.Frag) : Sp := fun vs H Q _ => ∃ (a : Addr) (n : Int) (ps : List Int), vs = [.int n, .ref a] ∧ SqL K H a (ps.map V.int) ∧ Q (.bl (sw n ps)) H
end
end Law
namespace L2
open PySem PySem.Spec PyProof.Rows
theorem comp_range {lo : Int} {n : Nat} {l : Addr} {g : TG} {tt : TT} {te : TE} {σ₀ : St} {H1 : Hp} {Q : Hp → Prop} (Pv : Nat → St → List V → Hp → Prop) (h0 : Pv 0 σ₀ [] (upd H1 l (.lst [])))
    (hs : ∀ i σ ys H, i < n → Pv i σ ys H → g (.int (lo + i)) σ H fun σ2 H2 => tt σ2 H2 fun b H3 =>
      if b = true then te σ2 H3 fun v H4 => H4 l = some (.lst ys) ∧ ys.length < sizeLine ∧ Pv (i + 1) σ2 (ys ++ [v]) (upd H4 l (.lst (ys ++ [v]))) else Pv (i + 1) σ2 ys H3)
    (hd : ∀ σ ys H, Pv n σ ys H → Q H) : tCompB l (Itr lo n) g tt te σ₀ H1 Q := by
  refine ⟨fun i m σ ys H => m = n - i ∧ i ≤ n ∧ Pv i σ ys H, ⟨n, by simp, Nat.zero_le _, h0⟩, ?_⟩
  rintro i m σ ys H ⟨rfl, hi, p⟩
  by_cases hlt : i < n
  · refine .inr ⟨hlt, Pv (i + 1), fun σ2 ys2 H2 q => ⟨n - (i + 1), by omega, rfl, hlt, q⟩, fun x H' y => ?_⟩
    obtain ⟨e, y⟩ := y
    subst e y
    exact hs i σ ys _ hlt p
  · have e : i = n := by omega
    subst e
    exact .inl ⟨Nat.le_refl _, hd σ ys H p⟩
theorem comp_yes {i : Nat} {x : V} {σ : St} {H : Hp} {A B : St → Hp → Prop} (h : A (σ.set i (some x)) H) : gName i x σ H fun σ2 H2 => tYes σ2 H2 fun b H3 => if b = true then A σ2 H3 else B σ2 H3 := by
  show if true = true then A (σ.set i (some x)) H else B (σ.set i (some x)) H
  rw [if_pos rfl]
  exact h
theorem comp_list {K : PySem.W.Frag} {a : Addr} {xs : List V} {l : Addr} {g : TG} {tt : TT} {te : TE} {σ₀ : St} {H1 : Hp} {Q : Hp → Prop} (Pv : Nat → St → List V → Hp → Prop) (h0 : Pv 0 σ₀ [] (upd H1 l (.lst []))) (hl : ∀ i σ ys H, i ≤ xs.length → Pv i σ ys H → SqL K H a xs)
    (hs : ∀ i x σ ys H, xs[i]? = some x → Pv i σ ys H → g x σ H fun σ2 H2 => tt σ2 H2 fun b H3 =>
      if b = true then te σ2 H3 fun v H4 => H4 l = some (.lst ys) ∧ ys.length < sizeLine ∧ Pv (i + 1) σ2 (ys ++ [v]) (upd H4 l (.lst (ys ++ [v]))) else Pv (i + 1) σ2 ys H3)
    (hd : ∀ σ ys H, Pv xs.length σ ys H → Q H) : tCompB l (Itl K a) g tt te σ₀ H1 Q := by
  refine ⟨fun i m σ ys H => m = xs.length - i ∧ i ≤ xs.length ∧ Pv i σ ys H, ⟨xs.length, by simp, Nat.zero_le _, h0⟩, ?_⟩
  rintro i m σ ys H ⟨rfl, hi, p⟩
  have q := hl i σ ys H hi p
  by_cases hlt : i < xs.length
  · refine .inr ⟨⟨xs, xs[i], q, by simp [hlt]⟩, Pv (i + 1), fun σ2 ys2 H2 q => ⟨xs.length - (i + 1), by omega, rfl, hlt, q⟩, fun x H' y => ?_⟩
    obtain ⟨e, y⟩ := y
    subst e
    exact hs i x σ ys _ (y xs q) p
  · have e : i = xs.length := by omega
    subst e
    exact .inl ⟨⟨xs, q, Nat.le_refl _⟩, hd σ ys H p⟩
end L2
namespace Law
open PySem L2 SA
seal PE PA PT PW PS PSs PG PGs PI PC PIfs PSet OpR UnR CallR IxR SlR PO
section
variable {P : Program} {w : World} {K : PySem.W.Frag} {mg : Str → Option Value} {base : Heap}
open Classical in
noncomputable def isRowC (row : List Int) : Bool := decide (IsRow row)
theorem isRowC_iff (row : List Int) : isRowC row = true ↔ IsRow row := by unfold isRowC; simp
def spIsRow : Sp := fun vs H Q _ => ∃ (a : Addr) (row : List Int), vs = [.ref a] ∧ H a = some (.lst (row.map V.int)) ∧ row.length ≤ 1000 ∧ ∀ H', Same H H' → Q (.bl (isRowC row)) H'
theorem sw_iff {n : Int} {ps : List Int} : sw n ps = true ↔ ∃ p q, ps = [p, q] ∧ q - p = n := by
  match ps with
  | [] => simp [sw]
  | [_] => simp [sw]
  | [p, q] =>
    simp only [sw, decide_eq_true_iff]
    exact ⟨fun h => ⟨p, q, rfl, h⟩, fun ⟨p', q', e, h⟩ => by injection e with e1 e2; injection e2 with e2 _; subst e1 e2; exact h⟩
  | _ :: _ :: _ :: _ => simp [sw]
theorem isRow_bool (row : List Int) (h1 : (row.length : Int) = 2 * ((row.length : Int) / 2)) (h2 : 1 ≤ (row.length : Int) / 2) (h3 : (row.length : Int) / 2 ≤ 400) :
    ((List.range (row.length / 2)).map fun (i : Nat) => sw (1 + (i : Int)) (plc row 0 (1 + (i : Int)))).all id = isRowC row := by
  rw [Bool.eq_iff_iff, isRowC_iff, isRow_iff]
  simp only [List.all_eq_true, List.mem_map, List.mem_range, id]
  constructor
  · intro h
    refine ⟨h1, h2, h3, fun n a b => ?_⟩
    have := h _ ⟨(n - 1).toNat, by omega, rfl⟩
    have e : (1 : Int) + (((n - 1).toNat : Nat) : Int) = n := by omega
    rw [e] at this
    exact sw_iff.mp this
  · rintro ⟨_, _, _, h⟩ x ⟨i, hi, rfl⟩
    exact sw_iff.mpr (h _ (by omega) (by omega))
structure Looked (H₀ H : Hp) (a d1 d2 : Addr) (row pre : List Int) (k1 k2 : List (Key × V)) : Prop where
  sm : Same H₀ H
  h1 : H d1 = some (.dK k1)
  h2 : H d2 = some (.dK k2)
  n0 : ∀ n : Int, plc pre 0 n = [] → valV k1 (Sum.inl n : Key) = none
  n1 : ∀ (n p : Int) r, plc pre 0 n = p :: r → valV k1 (Sum.inl n : Key) = some (.int p)
  b0 : ∀ n : Int, (plc pre 0 n).length < 2 → valV k2 (Sum.inl n : Key) = none
  b1 : ∀ n : Int, 2 ≤ (plc pre 0 n).length → valV k2 (Sum.inl n : Key) = some (.bl true)
  nd : (k2.map (·.1)).Nodup
  ik : ∀ k ∈ k2.map (·.1), ∃ n : Int, k = Sum.inl n
  l1 : k1.length ≤ pre.length
  l2 : k2.length ≤ pre.length
theorem key_ne {n x : Int} (h : n ≠ x) : (Sum.inl n : Key) ≠ Sum.inl x := fun e => h (by injection e)
theorem Looked.first {H₀ H : Hp} {a d1 d2 : Addr} {row pre : List Int} {k1 k2 : List (Key × V)} (L : Looked H₀ H a d1 d2 row pre k1 k2) (hd : H₀ d1 = none) {x : Int} (hx : plc pre 0 x = []) :
    Looked H₀ (upd H d1 (.dK (putK k1 (Sum.inl x) (.int pre.length)))) a d1 d2 row (pre ++ [x]) (putK k1 (Sum.inl x) (.int pre.length)) k2 ∨ d1 = d2 := by
  by_cases e : d1 = d2
  · exact .inr e
  · have pe : ∀ n : Int, n ≠ x → plc (pre ++ [x]) 0 n = plc pre 0 n := fun n hn => by rw [plc_snoc, if_neg (Ne.symm hn), List.append_nil]
    have px : plc (pre ++ [x]) 0 x = [(pre.length : Int)] := by rw [plc_snoc, if_pos rfl, hx]; rfl
    refine .inl ⟨fun b o q => by rw [upd_ne (ne_of_none q hd)]; exact L.sm b o q, upd_same, by rw [upd_ne (Ne.symm e)]; exact L.h2, fun n hn => ?_, fun n p r hn => ?_, fun n hn => ?_, fun n hn => ?_, L.nd, L.ik, ?_, ?_⟩
    · by_cases hnx : n = x
      · subst hnx; rw [px] at hn; cases hn
      · rw [pe n hnx] at hn; rw [valV_put, if_neg (key_ne hnx)]; exact L.n0 n hn
    · by_cases hnx : n = x
      · subst hnx; rw [px] at hn; injection hn with e1 _; rw [valV_put, if_pos rfl, e1]
      · rw [pe n hnx] at hn; rw [valV_put, if_neg (key_ne hnx)]; exact L.n1 n p r hn
    · by_cases hnx : n = x
      · subst hnx; exact L.b0 n (by rw [hx]; simp)
      · rw [pe n hnx] at hn; exact L.b0 n hn
    · by_cases hnx : n = x
      · subst hnx; rw [px] at hn; simp at hn
      · rw [pe n hnx] at hn; exact L.b1 n hn
    · have := length_putK k1 (Sum.inl x : Key) (V.int pre.length); have := L.l1; rw [List.length_append, List.length_singleton]; omega
    · have := L.l2; rw [List.length_append, List.length_singleton]; omega
theorem Looked.both {H₀ H : Hp} {a d1 d2 : Addr} {row pre : List Int} {k1 k2 : List (Key × V)} (L : Looked H₀ H a d1 d2 row pre k1 k2) (hd : H₀ d2 = none) (ne : d1 ≠ d2) {x p : Int} (hx : plc pre 0 x = [p]) :
    Looked H₀ (upd H d2 (.dK (putK k2 (Sum.inl x) (.bl true)))) a d1 d2 row (pre ++ [x]) k1 (putK k2 (Sum.inl x) (.bl true)) := by
  have pe : ∀ n : Int, n ≠ x → plc (pre ++ [x]) 0 n = plc pre 0 n := fun n hn => by rw [plc_snoc, if_neg (Ne.symm hn), List.append_nil]
  have px : plc (pre ++ [x]) 0 x = [p, (pre.length : Int)] := by rw [plc_snoc, if_pos rfl, hx]; rfl
  have hno := L.b0 x (by rw [hx]; simp)
  refine ⟨fun b o q => by rw [upd_ne (ne_of_none q hd)]; exact L.sm b o q, by rw [upd_ne ne]; exact L.h1, upd_same, fun n hn => ?_, fun n p' r hn => ?_, fun n hn => ?_, fun n hn => ?_, nd_putK _ L.nd hno, fun k hk => ?_, ?_, ?_⟩
  · by_cases hnx : n = x
    · subst hnx; rw [px] at hn; cases hn
    · rw [pe n hnx] at hn; exact L.n0 n hn
  · by_cases hnx : n = x
    · subst hnx; rw [px] at hn; injection hn with e1 _; rw [← e1]; exact L.n1 n p [] hx
    · rw [pe n hnx] at hn; exact L.n1 n p' r hn
  · by_cases hnx : n = x
    · subst hnx; rw [px] at hn; simp at hn
    · rw [pe n hnx] at hn; rw [valV_put, if_neg (key_ne hnx)]; exact L.b0 n hn
  · by_cases hnx : n = x
    · subst hnx; rw [valV_put, if_pos rfl]
    · rw [pe n hnx] at hn; rw [valV_put, if_neg (key_ne hnx)]; exact L.b1 n hn
  · rw [putK_new _ hno, List.map_append] at hk
    rcases List.mem_append.mp hk with h | h
    · exact L.ik k h
    · simp at h; exact ⟨x, h⟩
  · have := L.l1; rw [List.length_append, List.length_singleton]; omega
  · have := length_putK k2 (Sum.inl x : Key) (V.bl true); have := L.l2; rw [List.length_append, List.length_singleton]; omega
theorem isRowC_false {row : List Int} (h : ¬ IsRow row) : isRowC row = false := by
  cases e : isRowC row with
  | false => rfl
  | true => exact absurd ((isRowC_iff row).mp e) h
def spFilled (n : Nat) : Sp := fun vs H Q _ => ∃ (a : Addr) (row : List Int) (c : Int), vs = [.ref a, .int n, .int c] ∧ H a = some (.lst (row.map V.int)) ∧ 2 * n ≤ row.length ∧ row.length ≤ 100 ∧
  (∀ H', Same H H' → (¬ ∃ r, Compl n row r) → Q .non H') ∧ (∀ l r H', Same H H' → (l = a ∨ H l = none) → H' l = some (.lst (r.map V.int)) → Compl n row r → Q (.ref l) H')
theorem round (sp d : Int) (h0 : 0 ≤ d) (h1 : d < sp) (p : Int) (hp : 0 ≤ p) (hq : p < sp) : ∃ j : Int, 0 ≤ j ∧ j < sp ∧ (j + d) % sp = p := by
  by_cases h : d ≤ p
  · refine ⟨p - d, by omega, by omega, ?_⟩
    have e : p - d + d = p := by omega
    rw [e]; exact Int.emod_eq_of_lt hp hq
  · refine ⟨p + sp - d, by omega, by omega, ?_⟩
    have e : p + sp - d + d = p + sp := by omega
    rw [e, Int.add_emod_right]; exact Int.emod_eq_of_lt hp hq
theorem map_zero (n : Nat) : (List.replicate n (0 : Int)).map V.int = (List.replicate n (V.int 0)) := by
  induction n with
  | zero => rfl
  | succ n ih => rw [List.replicate_succ, List.replicate_succ, List.map_cons, ih]
theorem mod7 (z : Int) : ∃ s : Nat, s ∈ [1, 4, 5, 8, 9] ∧ atI (([1, 4, 5, 8, 9, 4, 5] : List Int).map V.int) (z % 7) = some (V.int s) := by
  have h0 := Int.emod_nonneg z (b := 7) (by decide)
  have h1 := Int.emod_lt_of_pos z (b := 7) (by decide)
  generalize z % 7 = r at h0 h1
  have : r = 0 ∨ r = 1 ∨ r = 2 ∨ r = 3 ∨ r = 4 ∨ r = 5 ∨ r = 6 := by omega
  rcases this with rfl | rfl | rfl | rfl | rfl | rfl | rfl
  · exact ⟨1, by decide, rfl⟩
  · exact ⟨4, by decide, rfl⟩
  · exact ⟨5, by decide, rfl⟩
  · exact ⟨8, by decide, rfl⟩
  · exact ⟨9, by decide, rfl⟩
  · exact ⟨4, by decide, rfl⟩
  · exact ⟨5, by decide, rfl⟩
def spSmall (K : PySem.W.Frag) : Sp := fun vs H Q _ => ∃ (a : Addr) (ns : List Int) (k : Nat), vs = [.ref a, .int k] ∧ SqL K H a (ns.map V.int) ∧
  ∀ l s row H', s ∈ [1, 4, 5, 8, 9] → RowOf s row → Same H H' → H l = none → H' l = some (.lst (row.map V.int)) → Q (.ref l) H'
def Prs (m : Int) (H : Hp) (xs : List V) : Prop := ∀ x ∈ xs, ∃ (p : Addr) (o u : Int), x = .ref p ∧ H p = some (.tup [.int o, .int u]) ∧ 1 ≤ o ∧ o ≤ m ∧ 1 ≤ u ∧ u ≤ m
theorem Prs.same {m : Int} {H H' : Hp} {xs : List V} (h : Prs m H xs) (s : Same H H') : Prs m H' xs := fun x hx => by
  obtain ⟨p, o, u, e, e2, r⟩ := h x hx
  exact ⟨p, o, u, e, s _ _ e2, r⟩
theorem Prs.upd {m : Int} {H : Hp} {xs ys zs : List V} {l : Addr} (h : Prs m H xs) (hl : H l = some (.lst ys)) : Prs m (upd H l (.lst zs)) xs := fun x hx => by
  obtain ⟨p, o, u, e, e2, r⟩ := h x hx
  exact ⟨p, o, u, e, by rw [upd_ne (ne_of e2 hl (by intro z; cases z))]; exact e2, r⟩
theorem Prs.snoc {m : Int} {H : Hp} {xs : List V} {p : Addr} {o u : Int} (h : Prs m H xs) (e : H p = some (.tup [.int o, .int u])) (h1 : 1 ≤ o) (h2 : o ≤ m) (h3 : 1 ≤ u) (h4 : u ≤ m) : Prs m H (xs ++ [.ref p]) := fun x hx => by
  rcases List.mem_append.mp hx with hx | hx
  · exact h x hx
  · simp at hx; exact ⟨p, o, u, hx, e, h1, h2, h3, h4⟩
theorem Prs.app {m : Int} {H : Hp} {xs ys : List V} (h : Prs m H xs) (h' : Prs m H ys) : Prs m H (xs ++ ys) := fun x hx => (List.mem_append.mp hx).elim (h x) (h' x)
theorem Prs.nil {m : Int} {H : Hp} : Prs m H [] := fun x hx => by simp at hx
theorem same_upd {H H' : Hp} {l : Addr} {o : HO} (s : Same H H') (h : H l = none) : Same H (upd H' l o) := fun b u e => by rw [upd_ne (ne_of_none e h)]; exact s b u e
end
end Law
namespace Law
open PySem L2 SA
def spLaw (K : PySem.W.Frag) : Sp := fun vs H Q _ => ∃ (a : Addr) (ns : List Int), vs = [.ref a] ∧ SqL K H a (ns.map V.int) ∧ ns.length ≤ 63 ∧ ∀ H', Q (.bl true) H'
end Law
namespace L2
open PySem PySem.Spec PyProof.Rows
mutual
theorem DH.same {H H' : Hp} (s : Same H H') {v : V} {d : PyData} (h : DH H v d) : DH H' v d := by
  cases h with
  | int i => exact .int i
  | lst e hs => exact .lst (s _ _ e) (DHs.same s hs)
  | tup e hs => exact .tup (s _ _ e) (DHs.same s hs)
theorem DHs.same {H H' : Hp} (s : Same H H') {xs : List V} {ds : List PyData} (h : DHs H xs ds) : DHs H' xs ds := by
  cases h with
  | nil => exact .nil
  | cons a b => exact .cons (DH.same s a) (DHs.same s b)
end
def rTupOf (K : PySem.W.Frag) : List V → Hp → VK → Prop := fun xs H Q => ∃ p ys, xs = [.ref p] ∧ ((SqL K H p ys ∧ ∀ l, H l = none → Q (.ref l) (upd H l (.tup ys))) ∨ (SqT K H p ys ∧ Q (.ref p) H))
theorem call_tuple_ofK {X : Cx} {K : PySem.W.Frag} (h : X.K = K) : CallR X (.type "tuple") (rTupOf K) := by subst h; exact call_tuple_of
def TL (H : Hp) : List V → List (List Int) → Prop := Paired fun x t => ∃ p, x = V.ref p ∧ H p = some (.tup (t.map V.int))
theorem TL.len {H : Hp} {xs : List V} {ts : List (List Int)} (h : TL H xs ts) : xs.length = ts.length := Paired.length h
theorem TL.same {H H' : Hp} {xs : List V} {ts : List (List Int)} (h : TL H xs ts) (s : Same H H') : TL H' xs ts := Paired.mapP h fun _ _ ⟨p, e, q⟩ => ⟨p, e, s _ _ q⟩
theorem TL.upd {H : Hp} {xs : List V} {ts : List (List Int)} {l : Addr} {o : HO} (h : TL H xs ts) (hl : ∀ ys, H l ≠ some (.tup ys)) : TL (upd H l o) xs ts := Paired.mapP h fun _ _ ⟨p, e, q⟩ => ⟨p, e, by rw [upd_ne (fun z => hl _ (z ▸ q))]; exact q⟩
theorem TL.snoc {H : Hp} {xs : List V} {ts : List (List Int)} {p : Addr} {t : List Int} (h : TL H xs ts) (e : H p = some (.tup (t.map V.int))) : TL H (xs ++ [.ref p]) (ts ++ [t]) := Paired.snoc h ⟨p, rfl, e⟩
theorem TL.set {H : Hp} {xs : List V} {ts : List (List Int)} {p : Addr} {t : List Int} (h : TL H xs ts) (e : H p = some (.tup (t.map V.int))) : ∀ i : Nat, TL H (xs.set i (.ref p)) (ts.set i t) := by
  unfold TL at h ⊢
  induction h with
  | nil => intro i; exact .nil
  | cons a b ih =>
    intro i
    cases i with
    | zero => exact .cons ⟨p, rfl, e⟩ b
    | succ i => exact .cons a (ih i)
theorem TL.get {H : Hp} {xs : List V} {ts : List (List Int)} {i : Nat} {x : V} (h : TL H xs ts) (e : xs[i]? = some x) : ∃ p t, x = V.ref p ∧ H p = some (.tup (t.map V.int)) ∧ ts[i]? = some t := by
  unfold TL at h
  induction h generalizing i with
  | nil => simp at e
  | cons a b ih =>
    cases i with
    | zero => simp at e; subst e; obtain ⟨p, rfl, q⟩ := a; exact ⟨p, _, rfl, q, rfl⟩
    | succ i => simp at e; obtain ⟨p, t, h1, h2, h3⟩ := ih e; exact ⟨p, t, h1, h2, by simpa using h3⟩
end L2
namespace Law
open PySem L2 SA
def spCrow : Sp := fun vs H Q _ => ∃ (a : Addr) (row : List Int), vs = [.ref a] ∧ H a = some (.lst (row.map V.int)) ∧ row.length ≤ 1000 ∧ IsRow row ∧ ∀ H', Same H H' → Q .non H'
def spContrary : Sp := fun vs H Q _ => ∃ (a : Addr) (row : List Int), vs = [.ref a] ∧ H a = some (.lst (row.map V.int)) ∧ row.length ≤ 1000 ∧ IsRow row ∧ ∀ (l : Addr) (H' : Hp), H l = none → H' l = some (.lst (row.reverse.map V.int)) → Same H H' → Q (.ref l) H'
def allPl (row : List Int) (s : Nat) : List (List Int) := (List.range s).map fun (i : Nat) => plc row 0 (1 + (i : Int))
def spPlaces : Sp := fun vs H Q _ => ∃ (a : Addr) (row : List Int) (s : Nat), vs = [.ref a] ∧ H a = some (.lst (row.map V.int)) ∧ 1 ≤ s ∧ s ≤ 400 ∧ RowOf s row ∧ ∀ (l : Addr) (xs : List V) (H' : Hp), H l = none → H' l = some (.lst xs) → TL H' xs (allPl row s) → Same H H' → Q (.ref l) H'
structure Firsts (H : Hp) (d : Addr) (pre : List Int) (k1 : List (Key × V)) : Prop where
  h1 : H d = some (.dK k1)
  n0 : ∀ n : Int, plc pre 0 n = [] → valV k1 (Sum.inl n : Key) = none
  n1 : ∀ (n p : Int), plc pre 0 n = [p] → valV k1 (Sum.inl n : Key) = some (.int p)
  ln : k1.length ≤ pre.length
end Law
namespace L2
open PySem PySem.Spec PyProof.Rows
section
variable {X : Cx}
def rIndex (K : PySem.W.Frag) : V → List V → Hp → VK → Prop := fun x vs H Q => ∃ p xs y j z, x = .ref p ∧ vs = [y] ∧ SqL K H p xs ∧ flatV y = true ∧ xs.all flatV = true ∧ xs[j]? = some z ∧ eqV z y = true ∧ (∀ m : Nat, m < j → ∀ z', xs[m]? = some z' → eqV z' y = false) ∧ Q (.int j) H
theorem eqU_at {y : V} {xs : List V} {its : List Value} (r : Vals xs its) (fs : xs.all flatV = true) {j : Nat} {z : V} (h : xs[j]? = some z) (hj : j < its.length) : eqU y its[j] = eqV z y := by
  obtain ⟨u, hu, ru⟩ := r.get h
  rw [List.getElem?_eq_getElem hj] at hu
  cases hu
  exact eqU_of ru (List.all_eq_true.mp fs z (List.mem_of_getElem? h))
theorem mt_index : MtM X "list.index" (rIndex X.K) := by
  intro pins s σ H x vs v us Q I rx rv h
  obtain ⟨p, xs, y, j, z, rfl, rfl, hq, fy, fs, hj, hit, hno, q⟩ := h
  cases rx
  obtain ⟨u, rfl, ru⟩ := rv.one
  obtain ⟨its, r, pl, hz⟩ := I.list hq
  have hlen := r.length
  have hjl : j < its.length := by rw [← hlen]; exact (List.getElem?_eq_some_iff.mp hj).1
  obtain ⟨⟨cls, dd, data, sl⟩, ho, hc, n, hd⟩ := pl.isList
  simp only at hc hd
  subst hc hd
  have hn := line63
  refine call_meets F.slot_list_index ⟨_, ho, rfl⟩ F.entry_list_index (F.args_list_index_2 _ _)
    (SeqAt.list_indexAt p its.toArray n dd sl u (eqU y) j (by rw [List.size_toArray]; exact hjl) (by omega) ?_ ?_) ⟨ho, fun y' hy => mem_eqAt ru fy r fs y' (by simpa using hy), ?_⟩
  · show eqU y its[j] = true
    rw [eqU_at r fs hj hjl]; exact hit
  · intro m hm hlt
    have hm2 : m < its.length := by simpa using hm
    show eqU y its[m] = false
    have hg : xs[m]? = some xs[m] := List.getElem?_eq_getElem (by omega)
    rw [eqU_at r fs hg hm2]
    exact hno m hlt _ hg
  · exact ⟨.int j, H, I.tok _, ⟨_, rfl⟩, q⟩
def rCount (K : PySem.W.Frag) : V → List V → Hp → VK → Prop := fun x vs H Q => ∃ p xs y, x = .ref p ∧ vs = [y] ∧ SqL K H p xs ∧ flatV y = true ∧ xs.all flatV = true ∧ Q (.int (xs.countP fun z => eqV z y : Nat)) H
theorem countP_eqU {y : V} : ∀ {xs : List V} {its : List Value}, Vals xs its → xs.all flatV = true → its.countP (eqU y) = xs.countP fun z => eqV z y
  | _, _, .nil, _ => rfl
  | z :: xs, u :: us, .cons r t, f => by
    rw [List.all_cons, Bool.and_eq_true] at f
    rw [List.countP_cons, List.countP_cons, countP_eqU t f.2, eqU_of r f.1]
theorem mt_count : MtM X "list.count" (rCount X.K) := by
  intro pins s σ H x vs v us Q I rx rv h
  obtain ⟨p, xs, y, rfl, rfl, hq, fy, fs, q⟩ := h
  cases rx
  obtain ⟨u, rfl, ru⟩ := rv.one
  obtain ⟨its, r, pl, hz⟩ := I.list hq
  obtain ⟨⟨cls, dd, data, sl⟩, ho, hc, n, hd⟩ := pl.isList
  simp only at hc hd
  subst hc hd
  refine call_meets F.slot_list_count ⟨_, ho, rfl⟩ F.entry_list_count (F.args_list_count_2 _ _)
    (SeqAt.list_countAt p its.toArray n dd sl u (eqU y)) ⟨ho, fun y' hy => mem_eqAt ru fy r fs y' (by simpa using hy), ?_⟩
  have e : its.toArray.toList.countP (eqU y) = xs.countP fun z => eqV z y := countP_eqU r fs
  rw [e]
  exact ⟨.int _, H, I.tok _, ⟨_, rfl⟩, q⟩
end
end L2
namespace L2
open PySem PySem.Spec PySem.Calls PyProof.Rows PySem.W PySem.Builtin PySem.Builtin.Getset_descriptor
structure XCls (K : PySem.W.Frag) (C : Addr) : Prop where
  ga : findIn K (.ref C) "__getattribute__" = some (some (.builtin "BaseException.__getattribute__"))
  gg : findIn K (.ref C) "__getattr__" = some none
  cl : findIn K (.ref C) "__class__" = some (some (.builtin "object.__class__"))
  mo : mroIn K C (.type "object") = some true
  mb : mroIn K C (.type "BaseException") = some true
  is : isClsIn K C = true
theorem isCls_at {K : PySem.W.Frag} {C : Addr} (h : isClsIn K C = true) : ∃ o, K.lookup C = some o ∧ ∃ cd, o.data = .cls cd := by
  unfold isClsIn clsIn at h
  split at h
  · rename_i c d cd sl ho
    exact ⟨_, ho, cd, rfl⟩
  · cases h
def InCls (h : Heap) (x C : Addr) : Prop := ∃ ox, h.get? x = some ox ∧ ox.cls = .ref C
theorem InCls.type {M : Model} {h : Heap} {x C : Addr} (I : InCls h x C) : Looks M h (typeOf (.ref x)) (.ref C) := by
  obtain ⟨ox, e, c⟩ := I
  exact c ▸ (Looks.ld e).andThen .now
section
variable {prog : Program} {w : World} {A : Around} {E : Value → Shared → Prop} {s : Shared} {K : PySem.W.Frag} {x D : Addr}
theorem exc_get {R : Result → Shared → Prop} {tp : Value} (X : K.In s.heap) (I : InCls s.heap x D) (hm : mroIn K D (.type "object") = some true) (hq : R (.ok (.ret (.ref D))) s) :
    codeAny (model prog w) A (.call (.builtin "getset_descriptor.__get__") ⟨[.builtin "object.__class__", .ref x, tp], []⟩) R s := by
  obtain ⟨hh, gg, dr, tk, os⟩ := s
  have l0 := I.type (M := model prog w); have l1 := looks_mroIn (M := model prog w) X hm
  refine codeAny_call_builtin KF.slot_gs.plain KF.entry_gs (KF.slot_gs.check _ _ _ _ _ _ _ _ KF.type_class (KF.args_gs _ _ _) ?_)
  unfold Builtin.«getset_descriptor.__get__» descrGet; rw [dga_obj]
  refine wpAny_bind (wpAny_pure ?_); unfold descrGetter descrCheckInstance descrNameAndClass isInstance; simp only [KF.owner_class]
  repeat lk
  refine ⟨Code.quiet_builtin _ (by decide +kernel), codeAny_builtin KF.entry_class ?_⟩; unfold Builtin.«object.__class__» shownTypeOf
  repeat lk
  exact hq
theorem exc_entry {tk : Tok} {Q : Fin → Shared → Prop} (X : K.In s.heap) (I : InCls s.heap x D) (c : XCls K D) (hq : Q (.done (.ret (.ref D))) s) :
    wpAny (model prog w) A (Builtin.«object.__getattribute__» ⟨[.ref x, .str "__class__" tk], []⟩) Q E s := by
  obtain ⟨h, g, d, t, os⟩ := s
  have L0 := I.type (M := model prog w)
  have L1 := looks_findIn (M := model prog w) X c.cl
  have hT5 : (⟨h, g, d, t, os⟩ : Shared).TypeIs (.builtin "object.__class__") "getset_descriptor" := F.typeOf_object_class
  have f5 := F.typeOf_object_class
  have f6 := F.slot_gs_get.lookup
  have f7 := F.slot_gs_set.lookup
  repeat (any_goals (first | assumption | with_reducible refine Looks.at (by assumption) ?_ | wp_step))
  refine exc_get X I c.mo ?_
  repeat (any_goals (first | assumption | wp_step))
theorem exc_check {M : Model} {nameV : Value} {Q : Unit → Shared → Prop} (X : K.In s.heap) (I : InCls s.heap x D) (c : XCls K D) (hq : Q () s) :
    wpAny M A (checkBuiltinCall "BaseException.__getattribute__" ⟨[.ref x, nameV], []⟩) Q E s := by
  have hk : builtinKind "BaseException.__getattribute__" = some .slot := by decide +kernel
  have hsplit : splitId "BaseException.__getattribute__" = some ("BaseException", "__getattribute__") := by decide +kernel
  have ha := F.args_bexc_ga (.ref x) nameV
  obtain ⟨h, g, d, t, os⟩ := s
  have L0 := I.type (M := M)
  have L1 := looks_mroIn (M := M) X c.mb
  simp only [checkBuiltinCall, hk, hsplit]
  refine wpAny_bind ?_
  · unfold isInstance
    repeat (first | with_reducible refine Looks.at (by assumption) ?_ | wp_step)
    exact hq
theorem exc_class {Q : Option Value → Shared → Prop} (X : K.In s.heap) (I : InCls s.heap x D) (c : XCls K D) (hq : Q (some (.ref D)) { s with toks := s.toks + 1 }) : wpAny (model prog w) A (getAttr? (.ref x) "__class__") Q E s := by
  obtain ⟨h, g, d, t, os⟩ := s
  have L0 := I.type (M := model prog w)
  have L1 := looks_findIn (M := model prog w) X c.ga
  have L2 := looks_findIn (M := model prog w) X c.gg
  have f3 := F.attrBase_ValueError.ga.bind (.ref x)
  have hx2 : (Value.builtin "BaseException.__getattribute__" == Value.builtin "object.__getattribute__") = false := by decide +kernel
  have hx1 : (onTheHeap (Value.ref D) && Value.builtin "BaseException.__getattribute__" == Value.builtin "object.__getattribute__") = false := by rw [hx2]; rfl
  unfold getAttr? getAttrBy?
  repeat (any_goals (first | assumption | with_reducible refine Looks.at (by assumption) ?_ | wp_step))
  show codeAny (model prog w) A (Code.call (Value.builtin "BaseException.__getattribute__") ⟨[.ref x, .str "__class__" t], []⟩) _ _
  refine codeAny_call_builtin F.attrBase_ValueError.ga.plain F.entry_bexc_ga (exc_check (s := ⟨h, g, d, t + 1, os⟩) X I c (exc_entry (s := ⟨h, g, d, t + 1, os⟩) X I c ?_))
  repeat (any_goals (first | assumption | wp_step))
theorem kitx_exc (c : XCls K D) : KitX K (.ref x) (.ref D) (fun h => InCls h x D) where
  ty := fun _ _ _ I => I.type
  it := fun _ _ X _ => by
    intro A' Q' E' s' k q
    obtain ⟨o, hl, cd, hd⟩ := isCls_at c.is
    unfold isType loadHead
    refine wpAny_bind (wpAny_loadPart (k _ _ (X _ _ hl)) (wpAny_pure ?_))
    rw [hd]; exact q
  ne := fun h tp dd its n sl X htp => by
    refine Bool.eq_false_iff.mpr fun q => ?_
    have e : D = tp := Value.ref.inj (beq_iff_eq.mp q)
    subst e
    obtain ⟨o, hl, cd, hd⟩ := isCls_at c.is
    have z := (X _ _ hl).symm.trans htp
    cases z
    cases hd
  ca := fun X I k => exc_class X I c k
end
end L2
namespace L2
open PySem PySem.Spec PySem.Calls PyProof.Rows PySem.W
def CXE (P : Program) (w : World) : CXT := fun outer H s E e s' => ∃ (a C : Addr) (H' : Hp) (B : Heap) (a0 : Value), e = .ref a ∧ s'.os = s.os ∧ AllBare s'.gens ∧ Heap.FlyingW B outer a (.ref C) a0 s'.heap ∧
  Un (frs outer) [] H H' s.heap s'.heap ∧ HOk P w H' s'.heap ∧ s.heap.get? a = none ∧ H' a = none ∧
  (∀ b o, s'.heap.get? b = some o → b ∉ frs outer → (H' b ≠ none ∨ s.heap.get? b ≠ none) → B.get? b = some o) ∧ E (.ref C) none H'
theorem objok_at {P : Program} {w : World} {H : Hp} {h : Heap} {a : Addr} {o : HO} (x : ObjOk P w H h a o) : ∃ ob, h.get? a = some ob := by
  cases o with
  | lst xs => obtain ⟨_, _, _, _, e⟩ := x; exact ⟨_, e⟩
  | tup xs => obtain ⟨_, _, _, o, e, _⟩ := x; exact ⟨_, e⟩
  | dK kvs => obtain ⟨_, _, _, _, o, _, _, e, _⟩ := x; exact ⟨_, e⟩
  | dT kvs => obtain ⟨_, _, _, _, o, _, _, e, _⟩ := x; exact ⟨_, e⟩
  | set S n => obtain ⟨o, _, _, _, e, _⟩ := x; exact ⟨_, e⟩
  | ins C dx fs => obtain ⟨_, _, _, e, _⟩ := x; exact ⟨_, e⟩
  | own y => exact x
  | xd fs => obtain ⟨_, ⟨_, _, _, e, _⟩, _⟩ := x; exact ⟨_, e⟩
  | rng lo hi => obtain ⟨_, _, _, e⟩ := x; exact ⟨_, e⟩
  | frz ob u => obtain ⟨e, _⟩ := x; exact ⟨_, e⟩
  | tbl ps => exact ⟨_, (show h.get? a = some _ from x)⟩
  | met f y => exact ⟨_, (show h.get? a = some _ from x)⟩
  | ext φ => obtain ⟨_, e, _⟩ := x; exact e
structure DefCx (X : Cx) : Prop where
  ex : X.ex = []
  stk : X.stack = X.env :: X.outer
  fr : X.env.frame = some X.env.locals
section
variable {X : Cx} {pins : List (Addr × Obj)} {σ : St} {H1 H' : Hp} {s1 s2 s3 : Shared} {B : Heap} {a C : Addr} {a0 : Value} {E : XK}
theorem frs_stk (d : DefCx X) : frs X.stack = X.env.locals :: X.fs := by
  rw [d.stk]; unfold frs; rw [List.filterMap_cons, d.fr]; rfl
theorem cxe_mk (d : DefCx X) (I : Inv X pins σ H1 s1) (os : s3.os = s1.os) (bare : AllBare s3.gens) (U : Un (frs X.stack) [] H1 H' s1.heap s2.heap) (ok : HOk X.prog X.w H' s2.heap) (na : s1.heap.get? a = none) (Ha : H' a = none)
    (cov : ∀ b o, s2.heap.get? b = some o → b ∉ frs X.stack → (H' b ≠ none ∨ s1.heap.get? b ≠ none) → B.get? b = some o) (fun2 : s2.heap.FunFrames B X.stack)
    (fl : Heap.FlyingW B X.outer a (.ref C) a0 s3.heap) (up : s2.heap.UpToSlots s3.heap) (hE : E (.ref C) none H') : CXE X.prog X.w X.outer X.H₀ X.s₀ E (.ref a) s3 := by
  have nl : ∀ b o, X.s₀.heap.get? b = some o → b ≠ X.env.locals := fun b o q => Nat.ne_of_lt (Nat.lt_of_lt_of_le (Heap.lt_size q) I.ok.above)
  have ns : ∀ b, b ∉ X.fs → b ≠ X.env.locals → b ∉ frs X.stack := fun b h1 h2 h3 => by
    rw [frs_stk d] at h3
    rcases List.mem_cons.mp h3 with z | z
    · exact h2 z
    · exact h1 z
  have nx : ∀ b : Addr, b ∉ X.ex := fun b => by rw [d.ex]; simp
  have n0 : ∀ b : Addr, b ∉ ([] : List Addr) := fun b => by simp
  have U1 := I.base
  have on : ∀ b o, s2.heap.get? b = some o → b ∉ frs X.stack → (H' b ≠ none ∨ s1.heap.get? b ≠ none) → s3.heap.get? b = some o := fun b o q h1 h2 => fl.1 b o (cov b o q h1 h2)
  have tf : ∀ b, H' b ≠ none → b ∉ frs X.stack := fun b hb hm => by
    obtain ⟨o, ho, _⟩ := (fun2.mem hm).2
    have hn1 : H1 b = none := I.stkFree b hm
    obtain ⟨_, o1, ho1, _⟩ := (I.stack).mem hm
    exact hb (U.free b o1 ho1 hn1 (n0 b))
  have lost : ∀ b o, X.s₀.heap.get? b = some o → ∃ o1, s1.heap.get? b = some o1 := fun b o q => U1.there b o q (nx b)
  refine ⟨a, C, H', B, a0, rfl, os.trans I.os, bare, fl, ⟨fun b o q hn hb _ => ?_, fun b o q hn hb _ => ?_, fun b o q hn _ => ?_, fun b o q _ => ?_, fun b xs q => U.tups b xs (U1.tups b xs q), fun b o u q => U.frzs b o u (U1.frzs b o u q), fun b ps q => ?_⟩, fun b u q => ?_, ?_, Ha, fun b o q hb hh => ?_, hE⟩
  · have e1 := U1.keep b o q hn hb (nx b)
    have e2 := U.keep b o e1 (U1.free b o q hn (nx b)) (ns b hb (nl b o q)) (n0 b)
    exact on b o e2 (ns b hb (nl b o q)) (.inr (by rw [e1]; simp))
  · obtain ⟨sl, e1⟩ := U1.slot b o q hn hb (nx b)
    have hm : b ∈ frs X.stack := by rw [frs_stk d]; exact List.mem_cons_of_mem _ hb
    obtain ⟨sl2, e2⟩ := U.slot b _ e1 (U1.free b o q hn (nx b)) hm (n0 b)
    obtain ⟨_, o2, ho2, hnf⟩ := fun2.mem hm
    rw [e2] at ho2
    cases ho2
    obtain ⟨sl3, e3⟩ := up b _ e2 hnf
    exact ⟨sl3, e3⟩
  · obtain ⟨o1, e1⟩ := lost b o q
    exact U.free b o1 e1 (U1.free b o q hn (nx b)) (n0 b)
  · obtain ⟨o1, e1⟩ := lost b o q
    obtain ⟨o2, e2⟩ := U.there b o1 e1 (n0 b)
    by_cases hm : b ∈ frs X.stack
    · obtain ⟨_, o3, ho3, hnf⟩ := fun2.mem hm
      rw [e2] at ho3
      cases ho3
      obtain ⟨sl3, e3⟩ := up b _ e2 hnf
      exact ⟨_, e3⟩
    · exact ⟨o2, on b o2 e2 hm (.inr (by rw [e1]; simp))⟩
  · obtain ⟨m1, e1⟩ := U1.tbls b ps q
    obtain ⟨m2, e2⟩ := U.tbls b _ e1
    exact ⟨m1 ++ m2, by rw [e2, Array.append_assoc]⟩
  · refine (ok b u q).stay (fun c v hc z => ?_) (fun _ z => z) fun _ _ z => z
    have hc' : H' c ≠ none := by
      rcases hc with rfl | hc
      · rw [q]; simp
      · rw [hc]; simp
    exact on c v z (tf c hc') (.inl hc')
  · cases e : X.s₀.heap.get? a with
    | none => rfl
    | some o => obtain ⟨o1, e1⟩ := lost a o e; rw [na] at e1; cases e1
  · have key : ∃ o2, s2.heap.get? b = some o2 ∧ b ∉ frs X.stack ∧ (H' b ≠ none ∨ s1.heap.get? b ≠ none) := by
      rcases hh with h | h
      · have : ∃ o2, s2.heap.get? b = some o2 := by
          cases eH : H' b with
          | none => exact absurd eH h
          | some u =>
            have lt := (ok b u eH).lt
            cases e2 : s3.heap.get? b with
            | none => rw [e2] at q; cases q
            | some o3 =>
              have := ok b u eH
              obtain ⟨o2, e⟩ := objok_at this
              exact ⟨o2, e⟩
        obtain ⟨o2, e2⟩ := this
        exact ⟨o2, e2, tf b h, .inl h⟩
      · cases e0 : X.s₀.heap.get? b with
        | none => exact absurd e0 h
        | some o0 =>
          obtain ⟨o1, e1⟩ := lost b o0 e0
          obtain ⟨o2, e2⟩ := U.there b o1 e1 (n0 b)
          exact ⟨o2, e2, ns b hb (nl b o0 e0), .inr (by rw [e1]; simp)⟩
    obtain ⟨o2, e2, k1, k2⟩ := key
    have e3 := on b o2 e2 k1 k2
    rw [e3] at q
    cases q
    exact cov b o e2 k1 k2
theorem made_leaves (d : DefCx X) (hf : X.A.frames = some X.stack) (I : Inv X pins σ H1 s1) {h' : Heap} {vs : List Value} (hx : Heap.MadeExcOf s1.heap h' a (.ref C) vs) (hE : E (.ref C) none H1) {M : Model} {E2 : Value → Shared → Prop} :
    wpAny M X.A (leaving X.env (.ref a)) (fun _ s'' => CXE X.prog X.w X.outer X.H₀ X.s₀ E (.ref a) s'') E2 { s1 with heap := h' } := by
  have hin : ∀ env ∈ X.stack, ∀ b, env.frame = some b → b ∈ frs X.stack := fun env he b hb => List.mem_filterMap.mpr ⟨env, he, hb⟩
  have ff : s1.heap.FunFrames (hideAll s1.heap (frs X.stack)) X.stack := funFrames_hide I.stack hin
  have hfr : X.A.frames = some (X.env :: X.outer) := by rw [hf, d.stk]
  have ff' := ff
  rw [d.stk] at ff'
  have hl := ff'
  rw [← d.stk] at hl
  refine wpAny_leaves_madeW (base := hideAll s1.heap (frs X.stack)) (h := s1.heap) hfr d.fr (fun b o q => of_hideAll _ q) (by rw [d.stk] at ff ⊢; exact ff) hx fun h'' t x1 x2 x3 x4 => ?_
  have Ha : H1 a = none := by
    cases e : H1 a with
    | none => rfl
    | some u => obtain ⟨ob, e2⟩ := objok_at (I.hok a u e); rw [hx.new] at e2; cases e2
  refine cxe_mk (s2 := { s1 with heap := h' }) d I rfl I.bare (Un.kept hx.keeps) (I.hok.kept hx.keeps) hx.new Ha (fun b o q hb hh => ?_) (ff.of_keeps fun b o q _ => ⟨o, hx.keeps b o q, rfl⟩) x1 x4 hE
  have key : ∃ o1, s1.heap.get? b = some o1 := by
    rcases hh with h | h
    · cases e : H1 b with
      | none => exact absurd e h
      | some u => exact objok_at (I.hok b u e)
    · cases e : s1.heap.get? b with
      | none => exact absurd e h
      | some o1 => exact ⟨o1, rfl⟩
  obtain ⟨o1, e1⟩ := key
  have q' : h'.get? b = some o := q
  rw [hx.keeps b o1 e1] at q'
  cases q'
  exact hideAll_get _ e1 hb
theorem flies_on (d : DefCx X) (hf : X.A.frames = some X.stack) (I : Inv X pins σ H1 s1) {e : Value} {s' : Shared} (h : CXE X.prog X.w X.stack H1 s1 E e s') {M : Model} {E2 : Value → Shared → Prop} :
    wpAny M X.A (leaving X.env e) (fun _ s'' => CXE X.prog X.w X.outer X.H₀ X.s₀ E e s'') E2 s' := by
  obtain ⟨a, C, H', B, a0, rfl, os, bare, fl, U, ok, na, Ha, cov, hE⟩ := h
  have hfr : X.A.frames = some (X.env :: X.outer) := by rw [hf, d.stk]
  have ff := fl.2.2.1
  refine wpAny_leaves_onW (base := B) hfr d.fr (by rw [d.stk] at fl; exact fl) fun h'' x1 x2 => ?_
  exact cxe_mk (s2 := s') (s3 := { s' with heap := h'' }) d I os bare U ok na Ha cov ff x1 x2 hE
end
end L2
namespace L2
open PySem PySem.Spec PySem.Calls PyProof.Rows PySem.W
abbrev bmV : List Value := [.type "ValueError", .type "Exception", .type "BaseException", .type "object"]
abbrev newV : String := "ValueError.__new__"
theorem exc_obj {K : PySem.W.Frag} {h : Heap} {C : Addr} {bmB : List Value} {newId : String} (X : K.In h) (q : excIn K C bmB newId = true) :
    ∃ bm N nm qn bs hdct sn sub ab col dd k0 k1 k2 k3 k5 mN, K.lookup C = some (excClassObj nm qn C N bs bm hdct sn sub ab col dd k0 k1 k2 k3 k5 newId) ∧ h.Ns N mN ∧ mN "__init__" = none ∧ OwnTail h bmB bm ∧ nsOkIn K N = true ∧ nsIn K N "__init__" = some none ∧ tailIn K bmB bm = true := by
  unfold excIn at q
  split at q
  case h_2 => cases q
  rename_i dd cd sl ho
  split at q
  case h_2 => cases q
  rename_i C' bm k0 k1 k2 k3 n k5 hm hs
  simp only [Bool.and_eq_true, beq_iff_eq, Bool.not_eq_true'] at q
  obtain ⟨⟨⟨⟨⟨rfl, rfl⟩, hdel⟩, ht⟩, hok⟩, hni⟩ := q
  obtain ⟨nm, bs, mro, ns, qn, hd, sn, sub, ab, col, del⟩ := cd
  dsimp only at hm hdel hok hni
  subst hm hdel
  obtain ⟨l⟩ := sl
  have hsl : l = [k0, k1, k2, k3, some (.builtin n), k5] := hs
  subst hsl
  exact ⟨bm, ns, nm, qn, bs, hd, sn, sub, ab, col, dd, k0, k1, k2, k3, k5, _, ho, .of_isNs (isNs_of_in X hok), nsMap_none_of_in X hok hni, tail_of_in X ht, hok, hni, ht⟩
def Throws (X : Cx) (E : XK) : Prop := ∀ (pins : List (Addr × Obj)) (σ : St) (H : Hp) (s : Shared) (h' : Heap) (a C : Addr) (vs : List Value), Inv X pins σ H s → Heap.MadeExcOf s.heap h' a (.ref C) vs → E (.ref C) none H → X.xe (.ref a) { s with heap := h' }
section
variable {P : Program} {w : World} {K : PySem.W.Frag} {mg : Str → Option Value} {base : Heap} {N : List Str} {qual : Str} {scope : Scope} {f : Addr} {cd : Value} {A : Around} {outer : List Env} {s : Shared} {H : Hp} {E : XK}
theorem throws_def : Throws (cxOf (CXE P w) P w K mg base N qual scope f cd A outer s H E) E := fun _ _ _ _ _ _ _ _ I hx hE => made_leaves ⟨rfl, rfl, rfl⟩ I.ok.frames I hx hE
theorem passes_def : Passes (CXE P w) (cxOf (CXE P w) P w K mg base N qual scope f cd A outer s H E) E := fun _ _ _ _ _ _ I h => flies_on ⟨rfl, rfl, rfl⟩ I.ok.frames I h
end
section
variable {X : Cx} {x : Str} {C : Addr} {E : XK} {e₀ : Expr} {te : TE} {np cpos pos : Pos}
def tRaise (C : Addr) (E : XK) (te : TE) : TS := fun _ σ H => te σ H fun _ H1 => E (.ref C) none H1
theorem ps_raise (hT : Throws X E) (q : excIn X.K C bmV newV = true) (hm : X.mg x = some (.ref C)) (hg : Gl X x) (hc : X.calm = true) (he : PE X e₀ te)
    (hs : starEach [e₀] X.env = [(false, eval e₀ X.env)] := by rfl) (hd : (x == ("__debug__" : Str)) = false := by decide) : PS X (.Raise (some (.Call (.Name x np) [e₀] [] cpos)) none pos) (tRaise C E te) := by
  intro pins s σ H D I h
  obtain ⟨tl, N, nm, qn, bs, hdct, sn, sub, ab, col, dd, k0, k1, k2, k3, k5, mN, hC, hN, hni, T, hok, hnn, ht⟩ := exc_obj I.ok.mod.kin q
  refine wpAny_Raise_call_subT (C := C) (nm := nm) (q := qn) (N := N) (bs := bs) (bm := tl) (hdct := hdct) (sn := sn) (sub := sub) (ab := ab) (col := col) (dd := dd) (k0 := k0) (k1 := k1) (k2 := k2) (k3 := k3) (k5 := k5) (mN := mN)
    F.excBase_ValueError (T.hasType F.excBase_ValueError.hasBase) (I.ok.hd hc) (by rw [hs]; rfl) hni (ld_glob I hg hm ⟨rfl, ?_⟩ hd)
  rw [hs]
  refine Calls.evalArgs_plain ?_
  show wpAny _ _ (spliced ((false, eval e₀ X.env) :: [])) _ _ s
  refine Calls.spliced_cons (thn (he pins s σ H _ I h) fun u s1 ⟨v, H1, I1, r1, q1⟩ => ?_)
  refine Calls.spliced_nil ⟨rfl, by show 1 ≤ sizeLine; rw [sizeLine_eq]; decide, I1.kIn _ _ hC, hN.keeps I1.bk, T.keeps I1.bk, fun h' e hx => ?_⟩
  exact hT pins σ H1 s1 h' e C _ I1 hx q1
end
structure CalE (P : Program) (w : World) (K : PySem.W.Frag) (mg : Str → Option Value) (base : Heap) (k : Nat) (x : Str) (ps : List Str) (sp : Sp) : Prop where
  len : ∀ vs H Q E, sp vs H Q E → vs.length = ps.length
  ex : ∃ f, mg x = some (.ref f) ∧ PySem.W.keepIn K (.ref f) = true ∧ ∀ (A : Around) (outer : List Env) (s : Shared) (H : Hp) (us : List Value) (vs : List V) (Q : VK) (E : XK), Room k A → Env0 P w K mg base A outer s H → Vals vs us → sp vs H Q E →
    codeAny (model P w) A (.call (.ref f) ⟨us, []⟩) (CR (CXE P w) outer P w H s Q E) s
section
variable {P : Program} {w : World} {K : PySem.W.Frag} {mg : Str → Option Value} {base : Heap} {x : Str} {st : Stmt} {ps N : List Str} {sp : Sp} {k j : Nat}
theorem fun_okE {x qual : Str} {f : Addr} {fd : FuncData} (F : Fun K x qual st f fd) (S : FnScope N ps (defScope st)) (len : ∀ vs H Q E, sp vs H Q E → vs.length = ps.length)
    (hbody : ∀ (cdv : Value) (A : Around) (outer : List Env) (s : Shared) (H : Hp) (vs : List V) (Q : VK) (E : XK), Room k (A.deeper (envOfC qual (defScope st) s.heap.objs.size f cdv)) → sp vs H Q E →
      ∃ t, PSs (cxOf (CXE P w) P w K mg base N qual (defScope st) f cdv A outer s H E) (defBody st) t ∧ t { nx := fun _ H' => Q .non H', rt := Q } (start N vs) H) : FnOk P w K mg base (CXE P w) (k + 1) f fd ps sp := by
  obtain ⟨oc, od, kV, doc, pm, an, cdv, ct, osl, rfl, lk, hcd⟩ := F.ex
  exact fn_of lk hcd S len fun A outer s H vs Q E hr hsp => hbody cdv A outer s H vs Q E hr hsp
theorem Def.okE (D : Def K mg x st ps) (S : FnScope N ps (defScope st)) (len : ∀ vs H Q E, sp vs H Q E → vs.length = ps.length)
    (hbody : ∀ (f : Addr) (cdv : Value) (A : Around) (outer : List Env) (s : Shared) (H : Hp) (vs : List V) (Q : VK) (E : XK), Room k (A.deeper (envOfC x (defScope st) s.heap.objs.size f cdv)) → sp vs H Q E →
      ∃ t, PSs (cxOf (CXE P w) P w K mg base N x (defScope st) f cdv A outer s H E) (defBody st) t ∧ t { nx := fun _ H' => Q .non H', rt := Q } (start N vs) H) : CalE P w K mg base (k + 1) x ps sp := by
  obtain ⟨f, fd, F, hm, hb⟩ := D.ex
  have G := fun_okE F S len (hbody f)
  refine ⟨len, f, hm, F.kp, fun A outer s H us vs Q E hr e0 rv hsp => G.run A outer s H ⟨us, []⟩ us vs Q E hr e0 ?_ rv hsp⟩
  have hl : (us ++ []).length = ps.length := by rw [List.append_nil, ← rv.length]; exact len _ _ _ _ hsp
  have := hb s us (e0.mod.kin.keeps fun b o e => (e0.bs b o e).1) hl
  rw [List.append_nil] at this
  exact this
theorem Cal.e (C : Cal P w K mg base k x ps sp) : CalE P w K mg base k x ps sp := by
  obtain ⟨f, fd, F, hm, hk, hb⟩ := C.ex
  refine ⟨F.len, f, hm, hk, fun A outer s H us vs Q E hr e0 rv hsp => ?_⟩
  have hl : (us ++ []).length = ps.length := by rw [List.append_nil, ← rv.length]; exact F.len _ _ _ _ hsp
  have h := hb s us (e0.mod.kin.keeps fun b o e => (e0.bs b o e).1) hl
  rw [List.append_nil] at h
  refine codeAny_mono (F.run A outer s H ⟨us, []⟩ us vs Q E hr e0 h rv hsp) fun r s' q => ?_
  cases r with
  | ok fl => cases fl <;> exact q
  | error e => exact q.elim
theorem CalE.mono (C : CalE P w K mg base j x ps sp) (h : j ≤ k) : CalE P w K mg base k x ps sp := by
  obtain ⟨f, hm, hk, F⟩ := C.ex
  exact ⟨C.len, f, hm, hk, fun A outer s H us vs Q E hr => F A outer s H us vs Q E (hr.mono h)⟩
theorem CalE.imp {sp' : Sp} (C : CalE P w K mg base k x ps sp) (h : ∀ vs H Q E, sp' vs H Q E → sp vs H Q E) : CalE P w K mg base k x ps sp' := by
  obtain ⟨f, hm, hk, F⟩ := C.ex
  exact ⟨fun vs H Q E q => C.len vs H Q E (h _ _ _ _ q), f, hm, hk, fun A outer s H us vs Q E hr e0 rv hsp => F A outer s H us vs Q E hr e0 rv (h _ _ _ _ hsp)⟩
theorem CalE.or {sp' : Sp} (C : CalE P w K mg base k x ps sp) (C' : CalE P w K mg base k x ps sp') : CalE P w K mg base k x ps (fun vs H Q E => sp vs H Q E ∨ sp' vs H Q E) := by
  obtain ⟨f, hm, hk, F⟩ := C.ex
  obtain ⟨f', hm', hk', F'⟩ := C'.ex
  rw [hm] at hm'
  cases hm'
  refine ⟨fun vs H Q E q => q.elim (C.len vs H Q E) (C'.len vs H Q E), f, hm, hk, fun A outer s H us vs Q E hr e0 rv hsp => ?_⟩
  rcases hsp with q | q
  · exact F A outer s H us vs Q E hr e0 rv q
  · exact F' A outer s H us vs Q E hr e0 rv q
end
section
variable {X : Cx} {x : Str} {ps : List Str} {sp : Sp} {k : Nat} {p pos : Pos} {e : Expr} {es : List Expr} {t : TA} {E : XK}
theorem pe_fnE (C : CalE X.prog X.w X.K X.mg X.base k x ps sp) (hp : Passes (CXE X.prog X.w) X E) (hr : Room k X.A) (ha : PA X (e :: es) t) (hg : Gl X x := by rfl) (hdb : (x == ("__debug__" : Str)) = false := by decide) (he : starEach (e :: es) X.env = (false, eval e X.env) :: starEach es X.env := by rfl)
    (hpl : (backTo pos (starEach es X.env)).any (·.1) = false := by rfl) : PE X (.Call (.Name x p) (e :: es) [] pos) (tCall sp [] E t) := by
  obtain ⟨f, hm, hk, F⟩ := C.ex
  intro pins s σ H Q I h
  refine wpAny_Call_Name_kw (ld_glob I hg hm ?_ hdb)
  refine PySem.W.callWith_K (h₀ := X.base) I.ok.mod.kin hk (thn (ha pos pins s σ H _ I h) fun us s1 ⟨vs, H1, I1, r, q⟩ => ⟨I1.kIn, ?_⟩) he hpl
  have q : sp (vs ++ []) H1 Q E := q
  rw [List.append_nil] at q
  refine wpAny_call (codeAny_mono (F X.A X.stack s1 H1 us vs Q E hr I1.env0 r q) fun r s' hq => ?_)
  cases r with
  | error e => exact hp pins σ H1 s1 e s' I1 hq
  | ok fl =>
    cases fl with
    | ret u => exact I1.after hq
    | next => exact False.elim hq
    | brk => exact False.elim hq
    | cont => exact False.elim hq
end
end L2
namespace L2
open PySem PySem.Spec PySem.Calls PyProof.Rows PySem.W
structure RoomM (k : Nat) (A : Around) : Prop where
  dp : A.depth + 3 * k + 5 < recursionLimit
  un : A.units + 16 * k + 200 < cLine
theorem Room.m {k : Nat} {A : Around} (r : Room k A) : RoomM k A := ⟨r.dp, r.un⟩
theorem RoomM.mono {j k : Nat} {A : Around} (r : RoomM k A) (h : j ≤ k) : RoomM j A := ⟨by have := r.dp; omega, by have := r.un; omega⟩
theorem RoomM.deeper {k : Nat} {A : Around} (r : RoomM (k + 1) A) (env : Env) : RoomM k (A.deeper env) :=
  ⟨by have := r.dp; show A.depth + 1 + 3 * k + 5 < _; omega, by have := r.un; show A.units + 3 + 16 * k + 200 < _; omega⟩
theorem RoomM.mark {k : Nat} {A : Around} (r : RoomM k A) (v : Option Value) : RoomM k (A.mark v) := ⟨r.dp, r.un⟩
theorem RoomM.depth {k : Nat} {A : Around} (r : RoomM k A) : A.depth < recursionLimit := by have := r.dp; omega
structure FnOkM (P : Program) (w : World) (K : PySem.W.Frag) (mg : Str → Option Value) (base : Heap) (k : Nat) (f : Addr) (fd : FuncData) (ps : List Str) (sp : Sp) : Prop where
  len : ∀ vs H Q E, sp vs H Q E → vs.length = ps.length
  run : ∀ (A : Around) (outer : List Env) (s : Shared) (H : Hp) (args : Args) (us : List Value) (vs : List V) (Q : VK) (E : XK), RoomM k A → Env0 P w K mg base A outer s H → BindsTo s fd args (ps.zip us) → Vals vs us → sp vs H Q E →
    codeAny (model P w) A (.call (.ref f) args) (CR CX0 outer P w H s Q E) s
abbrev Cx.wild (X : Cx) : Cx := { X with calm := false, xe := fun _ _ => False }
section
variable {P : Program} {w : World} {K : PySem.W.Frag} {mg : Str → Option Value} {base : Heap} {N ps : List Str} {x : Str} {st : Stmt} {sp : Sp} {k : Nat}
theorem inv_startM {qual : Str} {scope : Scope} {f : Addr} {cd : Value} {A : Around} {outer : List Env} {s s1 : Shared} {H : Hp} {E : XK} {us : List Value} {vs : List V}
    (S : FnScope N ps scope) (e0 : Env0 P w K mg base A outer s H) (hl : vs.length = ps.length) (r : Vals vs us)
    (y : InCallC s s.heap.objs.size (bindL (envOfC qual scope s.heap.objs.size f cd).kindOf (ps.zip us) fun _ => none) (cellsFrom (s.heap.objs.size + 1) scope.names []) (bindC (envOfC qual scope s.heap.objs.size f cd).kindOf (ps.zip us) fun _ => none) s1) :
    Inv (cxOf CX0 P w K mg base N qual scope f cd A outer s H E).wild [] (start N vs) H s1 := by
  have I := inv_start (CX := CX0) (A := { A with handled := none }) (E := E) S rfl ⟨e0.frames, e0.mod, e0.bs, e0.bsz, e0.funs, e0.frf, e0.hok, e0.bare⟩ hl r y
  exact ⟨⟨I.ok.mod, I.ok.kind, I.ok.glob, I.ok.blt, I.ok.above, I.ok.inj, I.ok.has, I.ok.cab, fun z => Bool.noConfusion z, I.ok.frames, I.ok.stk, I.ok.exf, I.ok.bs, I.ok.bsz, I.ok.noex, I.ok.exfs, I.ok.funs, I.ok.frf⟩, I.os, I.bare, I.base, I.loc, I.cell, I.free, I.freeC, I.pin, I.hok, I.len⟩
structure CalM (P : Program) (w : World) (K : PySem.W.Frag) (mg : Str → Option Value) (base : Heap) (k : Nat) (x : Str) (ps : List Str) (sp : Sp) : Prop where
  ex : ∃ f fd, FnOkM P w K mg base k f fd ps sp ∧ mg x = some (.ref f) ∧ PySem.W.keepIn K (.ref f) = true ∧ Binds K fd ps []
theorem Def.okM (D : Def K mg x st ps) (S : FnScope N ps (defScope st)) (len : ∀ vs H Q E, sp vs H Q E → vs.length = ps.length)
    (hbody : ∀ (f : Addr) (cdv : Value) (A : Around) (outer : List Env) (s : Shared) (H : Hp) (vs : List V) (Q : VK) (E : XK), RoomM k (A.deeper (envOfC x (defScope st) s.heap.objs.size f cdv)) → sp vs H Q E →
      ∃ t, PSs (cxOf CX0 P w K mg base N x (defScope st) f cdv A outer s H E).wild (defBody st) t ∧ t { nx := fun _ H' => Q .non H', rt := Q } (start N vs) H) : CalM P w K mg base (k + 1) x ps sp := by
  obtain ⟨f, fd, F, hm, hb⟩ := D.ex
  refine ⟨f, fd, ⟨len, fun A outer s H args us vs Q E hr e0 hbt r hsp => ?_⟩, hm, F.kp, hb⟩
  obtain ⟨oc, od, kV, doc, pm, an, cdv, ct, osl, rfl, lk, hcd⟩ := F.ex
  have hl := len _ _ _ _ hsp
  have KX : K.In s.heap := e0.mod.kin.keeps fun b o e => (e0.bs b o e).1
  have lim : s.heap.NoLimit := e0.mod.nolimit.keeps fun b o e => (e0.bs b o e).1
  have hkind : ∀ y ∈ ps.zip us, (defScope st).names.lookup y.1 = some .local ∨ ((defScope st).names.lookup y.1 = some .cell ∧ ((cellsFrom (s.heap.objs.size + 1) (defScope st).names []).lookup y.1).isSome = true) := fun y hy => by
    obtain ⟨n, v⟩ := y
    rcases S.par n (List.of_mem_zip hy).1 with q | q
    · exact .inl q
    · exact .inr ⟨q, PySem.W.cellsFrom_some _ _ _ (.inl q)⟩
  refine codeAny_call_function hr.depth (KX _ _ lk) rfl S.co S.gen rfl (PySem.W.codeRec_of KX hcd) (hbt _ _ _ _ ?_)
  refine wpAny_newFunctionEnv_cells S.kind hkind fun env he s1 z => ?_
  subst he
  refine ⟨lim.keeps z.toInCall.keep, codeAny_func ?_⟩
  obtain ⟨t, ht, hq⟩ := hbody f cdv A outer s H vs Q E (hr.deeper _) hsp
  have I := inv_startM (E := E) S e0 hl r z
  refine wpAny_mono (ht [] s1 (start N vs) H _ I hq) (fun fl s' hs => ?_) fun e s' hs => hs.elim
  cases fl with
  | ret u => obtain ⟨v, σ', H', J, rv, q⟩ := hs; exact ⟨v, H', J.os, J.bare, J.base, J.hok, rv, q⟩
  | next => obtain ⟨σ', H', J, q⟩ := hs; exact ⟨.non, H', J.os, J.bare, J.base, J.hok, rfl, q⟩
  | brk => obtain ⟨_, _, _, q⟩ := hs; exact q.elim
  | cont => obtain ⟨_, _, _, q⟩ := hs; exact q.elim
end
section
variable {X : Cx} {x : Str} {ps : List Str} {sp : Sp} {k : Nat} {p pos : Pos} {e : Expr} {es : List Expr} {t : TA}
theorem pe_fnM (C : CalM X.prog X.w X.K X.mg X.base k x ps sp) (hr : RoomM k X.A) (ha : PA X (e :: es) t) (hg : Gl X x := by rfl) (hdb : (x == ("__debug__" : Str)) = false := by decide) (he : starEach (e :: es) X.env = (false, eval e X.env) :: starEach es X.env := by rfl)
    (hpl : (backTo pos (starEach es X.env)).any (·.1) = false := by rfl) : PE X (.Call (.Name x p) (e :: es) [] pos) (tCall sp [] E0 t) := by
  obtain ⟨f, fd, F, hm, hk, hb⟩ := C.ex
  intro pins s σ H Q I h
  refine wpAny_Call_Name_kw (ld_glob I hg hm ?_ hdb)
  refine PySem.W.callWith_K (h₀ := X.base) I.ok.mod.kin hk (thn (ha pos pins s σ H _ I h) fun us s1 ⟨vs, H1, I1, r, q⟩ => ⟨I1.kIn, ?_⟩) he hpl
  have hl : (us ++ []).length = ps.length := by rw [List.append_nil, ← r.length]; have := F.len _ _ _ _ q; rw [List.append_nil] at this; exact this
  have r2 : Vals (vs ++ []) (us ++ []) := r.append .nil
  refine wpAny_call (codeAny_mono (F.run X.A X.stack s1 H1 ⟨us, []⟩ (us ++ []) (vs ++ []) Q E0 hr I1.env0 (hb s1 us I1.kIn hl) r2 q) fun r s' hq => ?_)
  cases r with
  | error e => exact hq.elim
  | ok fl =>
    cases fl with
    | ret u => exact I1.after hq
    | next => exact hq.elim
    | brk => exact hq.elim
    | cont => exact hq.elim
end
end L2
namespace L2
open PySem PySem.Spec PySem.Calls PyProof.Rows PySem.W
def ExcO (a C : Addr) : HO := .ext fun h => InCls h a C
theorem excO_ok {P : Program} {w : World} {H : Hp} {h : Heap} {a C : Addr} (I : InCls h a C) : ObjOk P w H h a (ExcO a C) := by
  refine ⟨I, ?_, fun h1 h2 p k => ?_⟩
  · obtain ⟨o, e, _⟩ := I; exact ⟨o, e⟩
  · obtain ⟨o, e, c⟩ := p; exact ⟨o, k o e, c⟩
section
variable {X : Cx}
def rIsX (K : PySem.W.Frag) : List V → Hp → VK → Prop := fun xs H Q => ∃ a C v c b, xs = [.ref a, v] ∧ H a = some (ExcO a C) ∧ XCls K C ∧ ((∃ D, v = .ref D ∧ c = Value.ref D) ∨ ∃ T, v = .ty T ∧ c = Value.type T) ∧ kitOne K (.ref C) c = some b ∧ Q (.bl b) H
theorem call_isX : CallR X (.builtin "isinstance") (rIsX X.K) := by
  intro pins s σ H xs us Q I r h
  obtain ⟨a, C, v, c, b, rfl, ha, hc, hv, hk, q⟩ := h
  obtain ⟨u, u', rfl, ru, rv⟩ := r.two
  cases ru
  have ec : u' = c := by
    rcases hv with ⟨D, rfl, rfl⟩ | ⟨T, rfl, rfl⟩
    · exact rv
    · exact rv
  subst ec
  obtain ⟨p, _, _⟩ := (show ObjOk X.prog X.w H s.heap a (ExcO a C) from I.hok a _ ha)
  exact kia_one (kitx_exc hc) I.kIn p hk (fun z => nomatch z) fun tk => ⟨.bl b, H, I.tok tk, rfl, q⟩
end
theorem un_on {P : Program} {w : World} {fs : List Addr} {H H' : Hp} {h h2 h3 B : Heap} (U : Un fs [] H H' h h2) (ok : HOk P w H' h2) (cov : ∀ b o, h2.get? b = some o → b ∉ fs → (H' b ≠ none ∨ h.get? b ≠ none) → B.get? b = some o)
    (hfun : ∀ b ∈ fs, ∃ o, h2.get? b = some o ∧ ∀ vs, o.data ≠ .fields vs) (hfree : ∀ b ∈ fs, H' b = none) (st : B.StaysIn h3) (up : h2.UpToSlots h3) : Un fs [] H H' h h3 ∧ HOk P w H' h3 := by
  have n0 : ∀ b : Addr, b ∉ ([] : List Addr) := fun b => by simp
  have on : ∀ b o, h2.get? b = some o → b ∉ fs → (H' b ≠ none ∨ h.get? b ≠ none) → h3.get? b = some o := fun b o q h1 h2 => st b o (cov b o q h1 h2)
  have sl : ∀ b o, h2.get? b = some o → b ∈ fs → ∃ sl, h3.get? b = some { o with slots := sl } := fun b o q hb => by
    obtain ⟨o', ho', hnf⟩ := hfun b hb
    rw [q] at ho'
    cases ho'
    exact up b o q hnf
  refine ⟨⟨fun b o q hn hb hx => on b o (U.keep b o q hn hb hx) hb (.inr (by rw [q]; simp)), fun b o q hn hb hx => ?_, U.free, fun b o q hx => ?_, U.tups, U.frzs, U.tbls⟩, fun b u q => ?_⟩
  · obtain ⟨sl1, e1⟩ := U.slot b o q hn hb hx
    obtain ⟨sl2, e2⟩ := sl b _ e1 hb
    exact ⟨sl2, e2⟩
  · obtain ⟨o2, e2⟩ := U.there b o q hx
    by_cases hb : b ∈ fs
    · obtain ⟨sl2, e3⟩ := sl b o2 e2 hb
      exact ⟨_, e3⟩
    · exact ⟨o2, on b o2 e2 hb (.inr (by rw [q]; simp))⟩
  · refine (ok b u q).stay (fun c v hc z => ?_) (fun _ z => z) fun _ _ z => z
    have hc' : H' c ≠ none := by
      rcases hc with rfl | hc
      · rw [q]; simp
      · rw [hc]; simp
    exact on c v z (fun hm => hc' (hfree c hm)) (.inl hc')
abbrev Cx.within (X : Cx) (pins : List (Addr × Obj)) (Et : Value → Shared → Prop) : Cx := { X with xe := Et, pn := X.pn ++ pins }
abbrev Cx.caught (X : Cx) (a : Addr) : Cx := { X with A := X.A.mark (some (.ref a)), calm := false, xe := fun _ _ => False }
section
variable {X : Cx} {pins : List (Addr × Obj)} {σ : St} {H : Hp} {s : Shared}
theorem Inv.within (I : Inv X pins σ H s) (Et : Value → Shared → Prop) : Inv (X.within pins Et) [] σ H s :=
  ⟨⟨I.ok.mod, I.ok.kind, I.ok.glob, I.ok.blt, I.ok.above, I.ok.inj, I.ok.has, I.ok.cab, I.ok.hd, I.ok.frames, I.ok.stk, I.ok.exf, I.ok.bs, I.ok.bsz, I.ok.noex, I.ok.exfs, I.ok.funs, I.ok.frf⟩, I.os, I.bare, I.base, I.loc, I.cell, I.free, I.freeC, fun p hp => I.pin p (by simpa using hp), I.hok, I.len⟩
theorem Inv.without {Et : Value → Shared → Prop} {pins' : List (Addr × Obj)} (I : Inv (X.within pins Et) pins' σ H s) : Inv X pins σ H s :=
  ⟨⟨I.ok.mod, I.ok.kind, I.ok.glob, I.ok.blt, I.ok.above, I.ok.inj, I.ok.has, I.ok.cab, I.ok.hd, I.ok.frames, I.ok.stk, I.ok.exf, I.ok.bs, I.ok.bsz, I.ok.noex, I.ok.exfs, I.ok.funs, I.ok.frf⟩, I.os, I.bare, I.base, I.loc, I.cell, I.free, I.freeC, fun p hp => I.pin p (List.mem_append_left _ hp), I.hok, I.len⟩
theorem Inv.caught (I : Inv X pins σ H s) (a : Addr) : Inv (X.caught a) pins σ H s :=
  ⟨⟨I.ok.mod, I.ok.kind, I.ok.glob, I.ok.blt, I.ok.above, I.ok.inj, I.ok.has, I.ok.cab, fun z => Bool.noConfusion z, I.ok.frames, I.ok.stk, I.ok.exf, I.ok.bs, I.ok.bsz, I.ok.noex, I.ok.exfs, I.ok.funs, I.ok.frf⟩, I.os, I.bare, I.base, I.loc, I.cell, I.free, I.freeC, I.pin, I.hok, I.len⟩
theorem Inv.gone {a : Addr} (hd : X.calm = true → X.A.handled = none) (I : Inv (X.caught a) pins σ H s) {h' : Heap} {m' : Str → Option Value} {tk : Nat} (hn : h'.Ns X.env.locals m') (hs : Heap.SameBut X.env.locals s.heap h') : Inv X pins (List.replicate X.N.length none) H { s with heap := h', toks := tk } := by
  have nl : ∀ b o, X.s₀.heap.get? b = some o → b ≠ X.env.locals := fun b o e => Nat.ne_of_lt (Nat.lt_of_lt_of_le (Heap.lt_size e) I.ok.above)
  refine ⟨⟨I.ok.mod, I.ok.kind, I.ok.glob, I.ok.blt, I.ok.above, I.ok.inj, I.ok.has, I.ok.cab, hd, I.ok.frames, I.ok.stk, I.ok.exf, I.ok.bs, I.ok.bsz, I.ok.noex, I.ok.exfs, I.ok.funs, I.ok.frf⟩, I.os, I.bare,
    ⟨fun b o e n hb hx => (hs.2 b (nl b o e)).trans (I.base.keep b o e n hb hx), fun b o e n hb hx => ?_, I.base.free, fun b o e hx => ?_, I.base.tups, I.base.frzs, I.base.tbls⟩, ⟨m', hn, fun i x v e1 e2 e3 => ?_⟩, fun y c e => ?_, I.free, I.freeC, fun p hp => ?_, fun b ob e => ?_, by simp⟩
  · obtain ⟨sl, e1⟩ := I.base.slot b o e n hb hx
    exact ⟨sl, (hs.2 b (nl b o e)).trans e1⟩
  · obtain ⟨o', e1⟩ := I.base.there b o e hx
    exact ⟨o', (hs.2 b (nl b o e)).trans e1⟩
  · rw [List.getElem?_replicate] at e2
    split at e2 <;> cases e2
  · obtain ⟨v, z⟩ := I.cell y c e
    exact ⟨v, z.sameBut hs (I.cne y c e)⟩
  · obtain ⟨e, n, ne, nf, d⟩ := I.pin p hp
    exact ⟨(hs.2 p.1 ne).trans e, n, ne, nf, d⟩
  · have hfree : H X.env.locals = none := I.free
    refine (I.hok b ob e).stay (fun c w' hc q => (hs.2 c ?_).trans q) (fun _ q => q) fun _ _ q => q
    rintro rfl
    rcases hc with rfl | hc
    · rw [hfree] at e; cases e
    · rw [hfree] at hc; cases hc
end
end L2
namespace L2
open PySem PySem.Spec PySem.Calls PyProof.Rows PySem.W
section
variable {X : Cx} {x n : Str} {CA : Addr} {i : Nat} {Ew : XK} {body suite : List Stmt} {b₀ : Stmt} {np hpos tpos : Pos} {tb ts : TS}
def tTry (tb ts : TS) (i k : Nat) (Ew : XK) : TS := fun D σ H => tb D σ H ∧ ∀ (C a : Addr) (H' : Hp) (σ' : St), σ'.length = k → Ew (.ref C) none H' → H' a = none → ts { nx := fun _ _ => False, rt := D.rt } (σ'.set i (some (.ref a))) (upd H' a (ExcO a C))
theorem caught_as (d : DefCx X) {pins : List (Addr × Obj)} {σ : St} {H : Hp} {s s' : Shared} {e : Value} {D : Ends} (hs : ∀ a, PSs (X.caught a) (b₀ :: suite) ts) (hm : X.mg x = some (.ref CA)) (hg : Gl X x)
    (hmt : ∀ C H', Ew (.ref C) none H' → exmOne X.K (.ref C) (.ref CA) = some true) (hN : X.N.Nodup) (hi : X.N[i]? = some n) (hlo : X.env.kindOf n = some .local) (hdb : (x == ("__debug__" : Str)) = false)
    (I : Inv X pins σ H s) (h : CXE X.prog X.w X.stack H s Ew e s')
    (ht : ∀ (C a : Addr) (H' : Hp) (σ' : St), σ'.length = X.N.length → Ew (.ref C) none H' → H' a = none → ts { nx := fun _ _ => False, rt := D.rt } (σ'.set i (some (.ref a))) (upd H' a (ExcO a C))) :
    wpAny (model X.prog X.w) X.A (noteFrame e X.env) (fun _ s₂ => wpAny (model X.prog X.w) X.A (setFlight e none) (fun _ s₃ =>
      wpAny (model X.prog X.w) X.A (handleBy e X.env [.ExceptHandler (some (.Name x np)) (some n) (b₀ :: suite) hpos]) (SP X pins D) X.xe s₃) X.xe s₂) X.xe s' := by
  obtain ⟨a, C, H', B, a0, rfl, os, bare, fl, U, ok, na, Ha, cov, hE⟩ := h
  have hfr : X.A.frames = some (X.env :: X.outer) := by rw [I.ok.frames, d.stk]
  have hfree : ∀ b ∈ frs X.stack, H' b = none := fun b hb => by
    obtain ⟨_, o1, ho1, _⟩ := (I.stack).mem hb
    exact U.free b o1 ho1 (I.stkFree b hb) (by simp)
  have hfun : ∀ b ∈ frs X.stack, ∃ o, s'.heap.get? b = some o ∧ ∀ vs, o.data ≠ .fields vs := fun b hb => (fl.2.2.1.mem hb).2
  refine wpAny_looks_onW (base := B) hfr d.fr (by rw [d.stk] at fl; exact fl) fun h₄ held₄ up₄ => ?_
  refine wpAny_landsW held₄ fun h₅ fl₅ up₅ => ?_
  have up5 := up₄.trans up₅
  obtain ⟨U5, ok5⟩ := un_on U ok cov hfun hfree fl₅.1 up5
  have I5 : Inv X pins σ H' { s' with heap := h₅ } := I.call' (s' := { s' with heap := h₅ }) (ch := []) os U5 ok5 bare fun b hb => absurd hb (by simp)
  refine wpAny_handleBy_cons (codeAny_handlers_test (ld_glob (X := X.caught a) (I5.caught a) hg hm ?_ hdb)) (by intro q; cases q)
  have inC : InCls h₅ a C := fl₅.there
  have LM := exm_one (M := model X.prog X.w) I5.kIn inC.type (hmt C H' hE)
  refine LM.here (codeAny_handlers_suite_as ?_)
  refine lands_againW fl₅ fun h₆ fl₆ up₆ => ?_
  obtain ⟨U6, ok6⟩ := un_on U ok cov hfun hfree fl₆.1 (up5.trans up₆)
  have nb : ∀ b o, s.heap.get? b = some o → b ≠ a := fun b o q z => by rw [z, na] at q; cases q
  have nt : ∀ b u, H' b = some u → b ≠ a := fun b u q z => by rw [z, Ha] at q; cases q
  have U7 : Un (frs X.stack) [] H (upd H' a (ExcO a C)) s.heap h₆ :=
    ⟨U6.keep, U6.slot, fun b o q hn hx => by rw [upd_ne (nb b o q)]; exact U6.free b o q hn hx, U6.there, fun b xs q => by have z := U6.tups b xs q; rw [upd_ne (nt b _ z)]; exact z,
      fun b o u q => by have z := U6.frzs b o u q; rw [upd_ne (nt b _ z)]; exact z, fun b ps q => by obtain ⟨m, z⟩ := U6.tbls b ps q; exact ⟨m, by rw [upd_ne (nt b _ z)]; exact z⟩⟩
  have ok7 : HOk X.prog X.w (upd H' a (ExcO a C)) h₆ := fun b u q => by
    by_cases hb : b = a
    · subst hb
      rw [upd_same] at q
      cases q
      exact excO_ok fl₆.there
    · rw [upd_ne hb] at q
      exact (ok6 b u q).stay (fun _ _ _ z => z) (fun c z => by rw [upd_ne (nt c _ z)]; exact z) fun c xs z => by rw [upd_ne (nt c _ z)]; exact z
  have I7 : Inv X pins σ (upd H' a (ExcO a C)) { s' with heap := h₆ } := I.call' (s' := { s' with heap := h₆ }) (ch := []) os U7 ok7 bare fun b hb => absurd hb (by simp)
  refine store_ok (X := X.caught a) (v := .ref a) (I7.caught a) hN hi (.inl hlo) rfl (fun s8 I8 => ?_) (.inr hlo)
  refine wpAny_mono (hs a pins s8 _ _ { nx := fun _ _ => False, rt := D.rt } I8 (ht C a H' σ I.len hE Ha)) (fun f s9 q => ?_) fun _ _ z => z.elim
  cases f with
  | ret u =>
    obtain ⟨v, σ', H'', J, r, q⟩ := q
    obtain ⟨m, hn, _⟩ := J.loc
    exact wpAny_nameGoes hlo hn (by rw [I.ok.kind]; rfl) fun h' m' hn' hs' => ⟨v, _, H'', J.gone I.ok.hd hn' hs', r, q⟩
  | next => obtain ⟨_, _, _, z⟩ := q; exact z.elim
  | brk => obtain ⟨_, _, _, z⟩ := q; exact z.elim
  | cont => obtain ⟨_, _, _, z⟩ := q; exact z.elim
theorem ps_try (d : DefCx X) (hb : ∀ pins Et, Passes (CXE X.prog X.w) (X.within pins Et) Ew → PSs (X.within pins Et) body tb) (hs : ∀ a, PSs (X.caught a) (b₀ :: suite) ts) (hm : X.mg x = some (.ref CA)) (hg : Gl X x)
    (hmt : ∀ C H', Ew (.ref C) none H' → exmOne X.K (.ref C) (.ref CA) = some true) (hN : X.N.Nodup) (hi : X.N[i]? = some n) (hlo : X.env.kindOf n = some .local) (hdb : (x == ("__debug__" : Str)) = false := by decide) :
    PS X (.Try body [.ExceptHandler (some (.Name x np)) (some n) (b₀ :: suite) hpos] [] [] tpos) (tTry tb ts i X.N.length Ew) := by
  intro pins s σ H D I h
  obtain ⟨h1, h2⟩ := h
  refine wpAny_Try_except (wpAny_mono (hb pins (fun e s₁ => wpAny (model X.prog X.w) X.A (noteFrame e X.env) (fun _ s₂ => wpAny (model X.prog X.w) X.A (setFlight e none) (fun _ s₃ =>
      wpAny (model X.prog X.w) X.A (handleBy e X.env [.ExceptHandler (some (.Name x np)) (some n) (b₀ :: suite) hpos]) (SP X pins D) X.xe s₃) X.xe s₂) X.xe s₁)
    (fun pins' σ' H' s1 e s' I' q => caught_as d hs hm hg hmt hN hi hlo hdb I'.without q h2) [] s σ H D (I.within _) h1) (fun f s1 q => ?_) fun _ _ z => z)
  cases f with
  | next => obtain ⟨σ', H', J, q⟩ := q; exact wpAny_execs_nil ⟨σ', H', J.without, q⟩
  | ret u => obtain ⟨v, σ', H', J, r, q⟩ := q; exact ⟨v, σ', H', J.without, r, q⟩
  | brk => obtain ⟨σ', H', J, q⟩ := q; exact ⟨σ', H', J.without, q⟩
  | cont => obtain ⟨σ', H', J, q⟩ := q; exact ⟨σ', H', J.without, q⟩
end
end L2
namespace L2
open PySem PySem.Spec PySem.Calls PyProof.Rows PySem.W
def PJ (X : Cx) (es : List Expr) (t : St → Hp → (Hp → Prop) → Prop) : Prop :=
  ∀ (acc : Str), acc.length + 2000 * es.length ≤ sizeLine → ∀ (pins : List (Addr × Obj)) (s : Shared) (σ : St) (H : Hp) (Q : VK), Inv X pins σ H s → t σ H (fun H' => ∀ z, Q (.str z) H') → wpAny (model X.prog X.w) X.A (joinParts acc (evalEach es X.env)) (EP X pins σ Q) X.xe s
section
variable {X : Cx} {e : Expr} {es : List Expr} {te : TE} {t : St → Hp → (Hp → Prop) → Prop} {pos : Pos}
def jNil : St → Hp → (Hp → Prop) → Prop := fun _ H Q => Q H
def jCons (te : TE) (t : St → Hp → (Hp → Prop) → Prop) : St → Hp → (Hp → Prop) → Prop := fun σ H Q => te σ H fun x H1 => ∃ y, x = .str y ∧ y.length ≤ 2000 ∧ t σ H1 Q
theorem pj_nil : PJ X [] jNil := by
  intro acc hz pins s σ H Q I h
  exact joinParts_nil ⟨.str acc, H, I.tok _, ⟨_, rfl⟩, h acc⟩ (by simpa using hz)
theorem pj_cons (he : PE X e te) (hr : PJ X es t) : PJ X (e :: es) (jCons te t) := by
  intro acc hz pins s σ H Q I h
  rw [List.length_cons] at hz
  refine joinParts_cons (x := eval e X.env) (rest := evalEach es X.env) (thn (he pins s σ H _ I h) fun u s1 ⟨x, H1, I1, r1, y, ex, hy, q1⟩ => ?_)
  subst ex
  obtain ⟨tk, rfl⟩ := r1
  have e1 := strLen_append acc y
  exact ⟨by omega, hr (acc ++ y) (by omega) pins s1 σ H1 Q I1 q1⟩
def tJoin (t : St → Hp → (Hp → Prop) → Prop) : TE := fun σ H Q => t σ H fun H' => ∀ z, Q (.str z) H'
theorem pe_join {a b : Expr} {r : List Expr} (h : PJ X (a :: b :: r) t) (hl : r.length ≤ 50) : PE X (.JoinedStr (a :: b :: r) pos) (tJoin t) := by
  intro pins s σ H Q I q
  refine JoinedStr_many (h Str.empty ?_ pins s σ H Q I q)
  have : (Str.empty).length = 0 := rfl
  rw [this, sizeLine_eq, List.length_cons, List.length_cons]; omega
def tFmtI (te : TE) : TE := fun σ H Q => te σ H fun x H1 => ∃ i, x = .int i ∧ i.natAbs.log2 < 1900 ∧ ∀ y : Str, y.length ≤ 2000 → Q (.str y) H1
theorem pe_fmtI (he : PE X e te) : PE X (.FormattedValue e (-1) none pos) (tFmtI te) := by
  intro pins s σ H Q I h
  refine FormattedValue_plain (thn (he pins s σ H _ I h) fun u s1 ⟨x, H1, I1, r1, i, ex, hi, q1⟩ => ?_)
  subst ex
  obtain ⟨tk, rfl⟩ := r1
  refine formatField_int_small (by omega) ⟨.str _, H1, I1.tok _, ⟨_, rfl⟩, q1 _ ?_⟩
  have := int_text_length_le (a := i) (k := 1900) (by decide) hi
  rw [PySem.ofString_length]; omega
end
theorem log2_small {i : Int} (h : i.natAbs < 2 ^ 1900) : i.natAbs.log2 < 1900 := by
  by_cases h0 : i.natAbs = 0
  · rw [h0]; decide
  · exact (Nat.log2_lt h0).mpr h
end L2
namespace Law
open PySem L2 SA
structure Err (K : PySem.W.Frag) (mg : Str → Option Value) (x : Str) (C : Addr) : Prop where
  nm : mg x = some (.ref C)
  ex : PySem.W.excIn K C bmV newV = true
  xc : XCls K C
structure Five (K : PySem.W.Frag) (mg : Str → Option Value) (c0 c1 c2 c3 c4 : Addr) : Prop where
  n0 : mg "NoSize" = some (.ref c0)
  n1 : mg "NoSuch" = some (.ref c1)
  n2 : mg "NoRow" = some (.ref c2)
  n3 : mg "NoPerson" = some (.ref c3)
  n4 : mg "NoNote" = some (.ref c4)
  nv : mg "ValueError" = none
structure Kind (K : PySem.W.Frag) (c0 c1 c2 c3 c4 C : Addr) (j : Nat) : Prop where
  xc : XCls K C
  k0 : PySem.W.kitOne K (.ref C) (.ref c0) = some (decide (j = 0))
  k1 : PySem.W.kitOne K (.ref C) (.ref c1) = some (decide (j = 1))
  k2 : PySem.W.kitOne K (.ref C) (.ref c2) = some (decide (j = 2))
  k3 : PySem.W.kitOne K (.ref C) (.ref c3) = some (decide (j = 3))
  k4 : PySem.W.kitOne K (.ref C) (.ref c4) = some (decide (j = 4))
  kv : PySem.W.kitOne K (.ref C) (.type "ValueError") = some true
def words : List Str := ["size", "such", "row", "person", "note"]
def spWord (K : PySem.W.Frag) (c0 c1 c2 c3 c4 : Addr) : Sp := fun vs H Q _ => ∃ (a C : Addr) (j : Nat), vs = [.ref a] ∧ H a = some (ExcO a C) ∧ j < 5 ∧ Kind K c0 c1 c2 c3 c4 C j ∧ ∀ H', Same H H' → Q (.str (words.getD j "")) H'
def spRowOfE (C : Addr) : Sp := fun vs H _ E => ∃ (s : Nat), vs = [.int s] ∧ 1 ≤ s ∧ s ≤ 400 ∧ ¬ s % 4 ≤ 1 ∧ E (.ref C) none H
theorem cls_of {K : PySem.W.Frag} {t : Value} {D : Addr} {b : Bool} (h1 : PySem.W.isClsIn K D = true) (h2 : PySem.W.typeIn K (.ref D) = some (.type "type")) (h3 : PySem.W.subIn K t (.ref D) = some b) : PySem.W.kitCls K t (.ref D) = some b := by
  have h1 : (PySem.W.clsIn K D).isSome = true := h1
  show (if ((PySem.W.clsIn K D).isSome && PySem.W.typeIn K (.ref D) == some (.type "type")) = true then PySem.W.subIn K t (.ref D) else none) = some b
  rw [h1, h2, if_pos (by decide)]
  exact h3
theorem kit_of_sub {K : PySem.W.Frag} {C D : Addr} {b : Bool} (h1 : PySem.W.isClsIn K D = true) (h2 : PySem.W.typeIn K (.ref D) = some (.type "type")) (h3 : PySem.W.subIn K (.ref C) (.ref D) = some b) (h4 : (Value.ref C == Value.ref D) = true → b = true) : PySem.W.kitOne K (.ref C) (.ref D) = some b := by
  unfold PySem.W.kitOne
  by_cases e : (Value.ref C == Value.ref D) = true
  · rw [if_pos e, h4 e]
  · rw [if_neg e]
    exact cls_of h1 h2 h3
theorem kit_of_ty {K : PySem.W.Frag} {C : Addr} {T : String} {b : Bool} (h2 : PySem.W.kitMeta T = true) (h3 : PySem.W.subIn K (.ref C) (.type T) = some b) : PySem.W.kitOne K (.ref C) (.type T) = some b := by
  unfold PySem.W.kitOne
  rw [if_neg (show ¬ (Value.ref C == Value.type T) = true from fun z => by have := beq_iff_eq.mp z; cases this)]
  show (if PySem.W.kitMeta T = true then PySem.W.subIn K (.ref C) (.type T) else none) = some b
  rw [if_pos h2]
  exact h3
theorem exm_of {K : PySem.W.Frag} {C D : Addr} (h0 : PySem.W.subIn K (.ref D) (.type "BaseException") = some true) (h1 : PySem.W.isClsIn K D = true) (h2 : PySem.W.typeIn K (.ref D) = some (.type "type")) (h3 : PySem.W.subIn K (.ref C) (.ref D) = some true) : PySem.W.exmOne K (.ref C) (.ref D) = some true := by
  unfold PySem.W.exmOne
  rw [h0, if_pos (by decide)]
  exact cls_of h1 h2 h3
end Law
namespace L2
open PySem PySem.Spec PyProof.Rows
theorem flat_ints (ns : List Int) : (ns.map V.int).all flatV = true := by
  rw [List.all_eq_true]
  intro x hx
  obtain ⟨i, _, rfl⟩ := List.mem_map.mp hx
  rfl
theorem inV_ints (n : Int) : ∀ ns : List Int, inV (.int n) (ns.map V.int) = ns.contains n
  | [] => rfl
  | a :: r => by
    have ih := inV_ints n r
    unfold inV at ih ⊢
    rw [List.map_cons, List.any_cons, ih, List.contains_cons]
    show ((a == n) || _) = ((n == a) || _)
    rw [Bool.beq_comm]
end L2
namespace SA
set_option maxHeartbeats 4000000
set_option maxRecDepth 100000
set_option linter.unusedVariables false
def free (part : List Int) : Nat := part.idxOf 0
def fitsB (part : List Int) (n : Nat) : Bool := !(part.contains (n : Int)) && (decide (free part + n < part.length) && (part.getD (free part + n) 1 == 0))
def carryTo (part : List Int) (i : Nat) : List (List Int) := ((List.range i).filter fun k => fitsB part (k + 1)).map fun k => put part (k + 1) (free part)
def carry (part : List Int) : List (List Int) := carryTo part (part.length / 2)
def allRows (s : Nat) : Nat → List (List Int)
  | 0 => [List.replicate (2 * s) 0]
  | k + 1 => (allRows s k).flatMap carry
def okAt (row : List Int) (n : Nat) : Bool := decide (free row + n < row.length) && (row.getD (free row + n) 1 == 0)
theorem free_get {part : List Int} (h : (0 : Int) ∈ part) : part[free part]? = some 0 ∧ ∀ m : Nat, m < free part → part[m]? ≠ some 0 := by
  unfold free
  have hl : part.idxOf 0 < part.length := List.idxOf_lt_length_iff.mpr h
  refine ⟨by rw [List.getElem?_eq_getElem hl, List.getElem_idxOf hl], fun m hm e => ?_⟩
  have hml : m < part.length := by omega
  rw [List.getElem?_eq_getElem hml] at e
  have e' : part[m] = 0 := Option.some.inj e
  have := List.not_of_lt_findIdx (p := fun x => x == (0 : Int)) (xs := part) (i := m) hm
  simp [e'] at this
theorem count_set {l : List Int} {i : Nat} {x : Int} (h : l[i]? = some 0) (hx : x ≠ 0) : (l.set i x).count 0 + 1 = l.count 0 := by
  induction l generalizing i with
  | nil => simp at h
  | cons a r ih =>
    cases i with
    | zero =>
      simp at h
      subst h
      have e : (x == 0) = false := by simpa using hx
      rw [List.set_cons_zero, List.count_cons, List.count_cons, e]
      simp
    | succ i =>
      simp at h
      have := ih h
      rw [List.set_cons_succ, List.count_cons, List.count_cons]
      omega
theorem put_count {part : List Int} {n p : Nat} (hn : 1 ≤ n) (h0 : part[p]? = some 0) (h1 : part[p + n]? = some 0) : (put part n p).count 0 + 2 = part.count 0 := by
  unfold put
  have e1 := count_set (x := (n : Int)) h0 (by omega)
  have h2 : (part.set p (n : Int))[p + n]? = some 0 := by rw [List.getElem?_set_ne (by omega)]; exact h1
  have e2 := count_set (x := (n : Int)) h2 (by omega)
  omega
theorem okAt_get {row : List Int} {n : Nat} (h : okAt row n = true) : row[free row + n]? = some 0 := by
  unfold okAt at h
  rw [Bool.and_eq_true] at h
  have h1 := of_decide_eq_true h.1
  have h2 : row.getD (free row + n) 1 = 0 := by simpa using h.2
  rw [List.getD_eq_getElem?_getD, List.getElem?_eq_getElem h1] at h2
  rw [List.getElem?_eq_getElem h1]
  simpa using h2
theorem carry_mem {part r : List Int} (h0 : (0 : Int) ∈ part) (h : r ∈ carry part) : r.length = part.length ∧ r.count 0 + 2 = part.count 0 := by
  unfold carry carryTo at h
  obtain ⟨k, hk, rfl⟩ := List.mem_map.mp h
  have hk := (List.mem_filter.mp hk).2
  unfold fitsB at hk
  rw [Bool.and_eq_true] at hk
  exact ⟨put_length _ _ _, put_count (by omega) (free_get h0).1 (okAt_get (row := part) (n := k + 1) hk.2)⟩
theorem allRows_mem (s : Nat) : ∀ k ≤ s, ∀ part ∈ allRows s k, part.length = 2 * s ∧ part.count 0 + 2 * k = 2 * s
  | 0, _, part, h => by
    simp [allRows] at h
    subst h
    refine ⟨by simp, ?_⟩
    rw [List.count_replicate]; simp
  | k + 1, hk, part, h => by
    simp only [allRows] at h
    obtain ⟨p0, hp, hc⟩ := List.mem_flatMap.mp h
    obtain ⟨a, b⟩ := allRows_mem s k (by omega) p0 hp
    have hz : (0 : Int) ∈ p0 := List.count_pos_iff.mp (by omega)
    obtain ⟨c, d⟩ := carry_mem hz hc
    omega
theorem carry_len (part : List Int) : (carry part).length ≤ part.length / 2 := by
  unfold carry carryTo
  rw [List.length_map]
  have := List.length_filter_le (fun k => fitsB part (k + 1)) (List.range (part.length / 2))
  rw [List.length_range] at this
  exact this
theorem flat_len {s : Nat} : ∀ (l : List (List Int)), (∀ p ∈ l, (carry p).length ≤ s) → (l.flatMap carry).length ≤ l.length * s
  | [], _ => by simp
  | a :: r, h => by
    have := flat_len r fun p hp => h p (by simp [hp])
    have h1 := h a (by simp)
    rw [List.flatMap_cons, List.length_append, List.length_cons, Nat.add_mul]
    omega
theorem allRows_len (s : Nat) (hs : s ≤ 8) : ∀ k ≤ s, (allRows s k).length ≤ 8 ^ k
  | 0, _ => by simp [allRows]
  | k + 1, hk => by
    have ih := allRows_len s hs k (by omega)
    have := flat_len (s := 8) (allRows s k) fun p hp => by
      have := carry_len p
      have := (allRows_mem s k (by omega) p hp).1
      omega
    simp only [allRows]
    rw [Nat.pow_succ]
    exact Nat.le_trans this (Nat.mul_le_mul_right 8 ih)
def bit (m i : Nat) : Bool := Nat.beq (Nat.land 1 (Nat.shiftRight m i)) 0
structure Bits (s : Nat) (p : List Int) (m u : Nat) : Prop where
  len : p.length = 2 * s
  pl : ∀ i : Nat, i < 2 * s → (bit m i = true ↔ p[i]? = some 0)
  nu : ∀ n : Nat, 1 ≤ n → (bit u n = true ↔ ¬ (n : Int) ∈ p)
def ext : Nat → List Int → List (List Int)
  | 0, p => [p]
  | k + 1, p => (carry p).flatMap (ext k)
end SA
namespace L2
open PySem PySem.Spec PyProof.Rows
def LL (Pp : Addr → Prop) (H : Hp) : List V → List (List Int) → Prop := Paired fun x t => ∃ p, x = V.ref p ∧ Pp p ∧ H p = some (.lst (t.map V.int))
theorem LL.len {Pp : Addr → Prop} {H : Hp} {xs : List V} {ts : List (List Int)} (h : LL Pp H xs ts) : xs.length = ts.length := Paired.length h
theorem LL.same {Pp : Addr → Prop} {H H' : Hp} {xs : List V} {ts : List (List Int)} (h : LL Pp H xs ts) (s : Same H H') : LL Pp H' xs ts := Paired.mapP h fun _ _ ⟨p, e, f, q⟩ => ⟨p, e, f, s _ _ q⟩
theorem LL.imp {Pp Pq : Addr → Prop} {H : Hp} {xs : List V} {ts : List (List Int)} (h : LL Pp H xs ts) (s : ∀ p o, H p = some o → Pp p → Pq p) : LL Pq H xs ts := Paired.mapP h fun _ _ ⟨p, e, f, q⟩ => ⟨p, e, s p _ q f, q⟩
theorem LL.upd {Pp : Addr → Prop} {H : Hp} {xs : List V} {ts : List (List Int)} {l : Addr} {o : HO} (h : LL Pp H xs ts) (hl : ¬ Pp l) : LL Pp (upd H l o) xs ts := Paired.mapP h fun _ _ ⟨p, e, f, q⟩ => ⟨p, e, f, by rw [upd_ne (show p ≠ l from fun z => hl (by rw [← z]; exact f))]; exact q⟩
theorem LL.snoc {Pp : Addr → Prop} {H : Hp} {xs : List V} {ts : List (List Int)} {p : Addr} {t : List Int} (h : LL Pp H xs ts) (f : Pp p) (e : H p = some (.lst (t.map V.int))) : LL Pp H (xs ++ [.ref p]) (ts ++ [t]) := Paired.snoc h ⟨p, rfl, f, e⟩
theorem LL.app {Pp : Addr → Prop} {H : Hp} : ∀ {xs ys : List V} {ts us : List (List Int)}, LL Pp H xs ts → LL Pp H ys us → LL Pp H (xs ++ ys) (ts ++ us)
  | _, _, _, _, .nil, s => s
  | _, _, _, _, .cons r t, s => .cons r (LL.app t s)
theorem LL.get {Pp : Addr → Prop} {H : Hp} {xs : List V} {ts : List (List Int)} {i : Nat} {x : V} (h : LL Pp H xs ts) (e : xs[i]? = some x) : ∃ p t, x = V.ref p ∧ Pp p ∧ H p = some (.lst (t.map V.int)) ∧ ts[i]? = some t := by
  unfold LL at h
  induction h generalizing i with
  | nil => simp at e
  | cons a b ih =>
    cases i with
    | zero => simp at e; subst e; obtain ⟨p, rfl, f, q⟩ := a; exact ⟨p, _, rfl, f, q, rfl⟩
    | succ i => simp at e; obtain ⟨p, t, h1, h2, h3, h4⟩ := ih e; exact ⟨p, t, h1, h2, h3, by simpa using h4⟩
end L2
namespace Law
open PySem L2 SA
def spFits (K : PySem.W.Frag) : Sp := fun vs H Q _ => ∃ (a : Addr) (part : List Int) (n : Nat), vs = [.ref a, .int n, .int (free part)] ∧ SqL K H a (part.map V.int) ∧ Q (.bl (fitsB part n)) H
def spCarried : Sp := fun vs H Q _ => ∃ (a : Addr) (part : List Int), vs = [.ref a] ∧ H a = some (.lst (part.map V.int)) ∧ (0 : Int) ∈ part ∧ part.length ≤ 16 ∧
  ∀ (l : Addr) (xs : List V) (H' : Hp), H l = none → H' l = some (.lst xs) → LL (fun p => H p = none ∧ p ≠ l) H' xs (carry part) → Same H H' → Q (.ref l) H'
def spAllRows : Sp := fun vs H Q _ => ∃ (s : Nat), vs = [.int s] ∧ 1 ≤ s ∧ s ≤ 8 ∧
  ∀ (l : Addr) (xs : List V) (H' : Hp), H l = none → H' l = some (.lst xs) → LL (fun p => H p = none ∧ p ≠ l) H' xs (allRows s s) → Same H H' → Q (.ref l) H'
def spMany : Sp := fun vs H Q _ => ∃ (s : Nat), vs = [.int s] ∧ 1 ≤ s ∧ s ≤ 8 ∧ ∀ (H' : Hp), Same H H' → Q (.int ((allRows s s).length : Nat)) H'
def spRows : Sp := fun vs H Q _ => ∃ (s : Nat), vs = [.int s] ∧ 1 ≤ s ∧ s ≤ 5 ∧
  ∀ (l : Addr) (xs : List V) (H' : Hp), H l = none → H' l = some (.lst xs) → LL (fun p => H p = none ∧ p ≠ l) H' xs (allRows s s) → Same H H' → Q (.ref l) H'
theorem fitsB_eq (part : List Int) (n : Nat) : fitsB part n = (!(part.contains (n : Int)) && okAt part n) := rfl
theorem carryTo_succ (part : List Int) (i : Nat) : carryTo part (i + 1) = carryTo part i ++ if fitsB part (i + 1) = true then [put part (i + 1) (free part)] else [] := by
  unfold carryTo
  rw [List.range_succ, List.filter_append, List.map_append, List.filter_cons, List.filter_nil]
  split <;> rfl
theorem carryTo_len (part : List Int) (i : Nat) : (carryTo part i).length ≤ i := by
  unfold carryTo
  rw [List.length_map]
  have := List.length_filter_le (fun k => fitsB part (k + 1)) (List.range i)
  rw [List.length_range] at this
  exact this
theorem flat_take {α β : Type} (f : α → List β) (l : List α) (i : Nat) : ((l.take i).flatMap f).length ≤ (l.flatMap f).length := by
  have e := List.take_append_drop i l
  have : l.flatMap f = (l.take i).flatMap f ++ (l.drop i).flatMap f := by rw [← List.flatMap_append, e]
  rw [this, List.length_append]; omega
theorem flat_step {α β : Type} (f : α → List β) {l : List α} {i : Nat} {x : α} (h : l[i]? = some x) : (l.take (i + 1)).flatMap f = (l.take i).flatMap f ++ f x := by
  rw [List.take_add_one, h]
  simp [List.flatMap_append]
theorem small8 {k : Nat} (h : k ≤ 8) : 8 ^ k ≤ sizeLine := by
  rw [sizeLine_eq]
  exact Nat.le_trans (Nat.pow_le_pow_right (by decide) h) (by decide)
end Law
namespace L2
open PySem PySem.Spec PySem.Calls PyProof.Rows
theorem ints_of_vals : ∀ {ns : List Int} {its : List Value}, Vals (ns.map V.int) its → IntsAre its ns
  | [], _, .nil => .nil
  | n :: ns, _, .cons r t => by
    obtain ⟨tk, rfl⟩ := r
    exact .cons n tk (ints_of_vals t)
section
variable {X : Cx}
def rSortI (K : PySem.W.Frag) : List V → Hp → VK → Prop := fun xs H Q => ∃ (p : Addr) (ns : List Int), xs = [.ref p] ∧ SqL K H p (ns.map V.int) ∧ ns.length < 64 ∧ ∀ (l : Addr) (ms : List Int), H l = none → ms.Perm ns → ms.Pairwise (· ≤ ·) → Q (.ref l) (upd H l (.lst (ms.map V.int)))
theorem call_sortI : CallR X (.builtin "sorted") (rSortI X.K) := by
  intro pins s σ H xs us Q I r h
  obtain ⟨p, ns, rfl, hq, h64, q⟩ := h
  obtain ⟨u, rfl, rx⟩ := vals1 r
  cases rx
  obtain ⟨its, r', pl, hz⟩ := I.list hq
  have hlen := r'.length
  rw [List.length_map] at hlen
  refine sorted_ints pl.isList (ints_of_vals r') (by omega) fun out ms a1 a2 a3 => ?_
  obtain ⟨e, he⟩ := sortedAll_at s.heap its out
  have hl2 := a2.length_eq
  refine ⟨.ref (s.heap.objs.size + 1), _, I.laid (t' := s.toks) (fun _ _ => sortedAll_old) (Nat.le_succ _) (show ObjOk X.prog X.w _ _ _ (.lst (ms.map V.int)) from ⟨?_, out.toList, e, vals_ints a1, by simpa [seqObj] using he⟩), rfl, q _ ms (I.hok.fresh (Nat.le_succ _)) a2 a3⟩
  rw [List.length_map, sizeLine_eq]; omega
end
end L2
namespace L2
open PySem PySem.Spec PySem.Calls PyProof.Rows PySem.W
section
variable {X : Cx} {pos : Pos}
end
theorem comp_tup {K : PySem.W.Frag} {a : Addr} {xs : List V} {l : Addr} {g : TG} {tt : TT} {te : TE} {σ₀ : St} {H1 : Hp} {Q : Hp → Prop} (Pv : Nat → St → List V → Hp → Prop) (h0 : Pv 0 σ₀ [] (upd H1 l (.lst []))) (hl : ∀ i σ ys H, i ≤ xs.length → Pv i σ ys H → SqT K H a xs)
    (hs : ∀ i x σ ys H, xs[i]? = some x → Pv i σ ys H → g x σ H fun σ2 H2 => tt σ2 H2 fun b H3 =>
      if b = true then te σ2 H3 fun v H4 => H4 l = some (.lst ys) ∧ ys.length < sizeLine ∧ Pv (i + 1) σ2 (ys ++ [v]) (upd H4 l (.lst (ys ++ [v]))) else Pv (i + 1) σ2 ys H3)
    (hd : ∀ σ ys H, Pv xs.length σ ys H → Q H) : tCompB l (Itt K a) g tt te σ₀ H1 Q := by
  refine ⟨fun i m σ ys H => m = xs.length - i ∧ i ≤ xs.length ∧ Pv i σ ys H, ⟨xs.length, by simp, Nat.zero_le _, h0⟩, ?_⟩
  rintro i m σ ys H ⟨rfl, hi, p⟩
  have q := hl i σ ys H hi p
  by_cases hlt : i < xs.length
  · refine .inr ⟨⟨xs, xs[i], q, by simp [hlt]⟩, Pv (i + 1), fun σ2 ys2 H2 q => ⟨xs.length - (i + 1), by omega, rfl, hlt, q⟩, fun x H' y => ?_⟩
    obtain ⟨e, y⟩ := y
    subst e
    exact hs i x σ ys _ (y xs q) p
  · have e : i = xs.length := by omega
    subst e
    exact .inl ⟨⟨xs, q, Nat.le_refl _⟩, hd σ ys H p⟩
end L2
namespace SA
set_option maxHeartbeats 4000000
set_option linter.unusedVariables false
def Bs (s : Nat) (row : List Int) (n e : Int) : Prop := ∃ p : Int, plc row 0 n = [p, p + n] ∧ 1 ≤ n ∧ n ≤ s ∧ e = s + p + n + 1
theorem Bs.range {s : Nat} {row : List Int} {n e : Int} (h : RowOf s row) (b : Bs s row n e) : 1 ≤ n ∧ n ≤ s ∧ (s : Int) + n + 1 ≤ e ∧ e ≤ 3 * s := by
  obtain ⟨p, hp, h1, h2, rfl⟩ := b
  obtain ⟨i, j, e1, e2, hij, g1, g2, _⟩ := of_plc_two hp
  have : j < row.length := (List.getElem?_eq_some_iff.mp g2).1
  have := h.1
  omega
theorem Bs.of {s : Nat} {row : List Int} (h : RowOf s row) {n : Int} (h1 : 1 ≤ n) (h2 : n ≤ s) : ∃ e, Bs s row n e := by
  obtain ⟨p, hp⟩ := h.2 n.toNat (by omega) (by omega)
  have e : ((n.toNat : Nat) : Int) = n := by omega
  rw [e] at hp
  exact ⟨_, p, hp, h1, h2, rfl⟩
theorem Bs.fn {s : Nat} {row : List Int} {n e e' : Int} (b : Bs s row n e) (b' : Bs s row n e') : e = e' := by
  obtain ⟨p, hp, _, _, rfl⟩ := b
  obtain ⟨p', hp', _, _, rfl⟩ := b'
  rw [hp] at hp'
  injection hp' with z
  omega
theorem Bs.at {s : Nat} {row : List Int} {n e : Int} (b : Bs s row n e) (k : Nat) : row[k]? = some n ↔ (k : Int) = e - n - s - 1 ∨ (k : Int) = e - s - 1 := by
  obtain ⟨p, hp, _, _, rfl⟩ := b
  have := mem_plc n row 0 (k : Int)
  rw [hp] at this
  simp only [List.mem_cons, List.not_mem_nil, or_false] at this
  constructor
  · intro hk
    have := this.mpr ⟨k, hk, by omega⟩
    omega
  · intro hk
    obtain ⟨k', e1, e2⟩ := this.mp (by omega)
    have : k' = k := by omega
    subst this; exact e1
theorem Bs.one {s : Nat} {row : List Int} {n e n' e' : Int} (b : Bs s row n e) (b' : Bs s row n' e') (h : RowOf s row) (hq : e - n = e' - n' ∨ e = e') : n = n' ∧ e = e' := by
  have r := b.range h
  have r' := b'.range h
  have key : n = n' := by
    rcases hq with hq | hq
    · have h1 := (b.at (e - n - s - 1).toNat).mpr (.inl (by omega))
      have h2 := (b'.at (e - n - s - 1).toNat).mpr (.inl (by omega))
      rw [h1] at h2; injection h2
    · have h1 := (b.at (e - s - 1).toNat).mpr (.inr (by omega))
      have h2 := (b'.at (e - s - 1).toNat).mpr (.inr (by omega))
      rw [h1] at h2; injection h2
  subst key
  exact ⟨rfl, b.fn b'⟩
theorem Bs.cross {s : Nat} {row : List Int} {n e n' e' : Int} (b : Bs s row n e) (b' : Bs s row n' e') (h : RowOf s row) : e - n ≠ e' := fun hq => by
  have r := b.range h
  have r' := b'.range h
  have h1 := (b.at (e - n - s - 1).toNat).mpr (.inl (by omega))
  have h2 := (b'.at (e - n - s - 1).toNat).mpr (.inr (by omega))
  rw [h1] at h2
  have z : n = n' := by injection h2
  subst z
  have := b.fn b'
  omega
theorem diff_ex {s : Nat} {row : List Int} (h : RowOf s row) {d : Int} (h1 : 1 ≤ d) (h2 : d ≤ 3 * s) : ∃ n e, Bs s row n e ∧ (d = n ∨ d = e - n ∨ d = e) := by
  by_cases hd : d ≤ s
  · obtain ⟨e, b⟩ := Bs.of h h1 hd
    exact ⟨d, e, b, .inl rfl⟩
  · have hl := h.1
    have hk : (d - s - 1).toNat < row.length := by omega
    have hg := List.getElem?_eq_getElem hk
    have hm := h.mem _ (List.getElem_mem hk)
    obtain ⟨e, b⟩ := Bs.of h hm.1 hm.2
    refine ⟨_, e, b, ?_⟩
    have := (b.at _).mp hg
    omega
theorem diff_un {s : Nat} {row : List Int} (h : RowOf s row) {n e n' e' : Int} (b : Bs s row n e) (b' : Bs s row n' e') :
    (n = n' → e = e') ∧ n ≠ e' - n' ∧ n ≠ e' ∧ (e - n = e' - n' → n = n' ∧ e = e') ∧ (e = e' → n = n') ∧ e - n ≠ e' := by
  have r := b.range h
  have r' := b'.range h
  refine ⟨fun z => ?_, by omega, by omega, fun z => b.one b' h (.inl z), fun z => (b.one b' h (.inr z)).1, b.cross b' h⟩
  subst z; exact b.fn b'
def Six (a b c x y z : Int) : Prop := (a = x ∧ b = y ∧ c = z) ∨ (a = x ∧ b = z ∧ c = y) ∨ (a = y ∧ b = x ∧ c = z) ∨ (a = y ∧ b = z ∧ c = x) ∨ (a = z ∧ b = x ∧ c = y) ∨ (a = z ∧ b = y ∧ c = x)
def Tri (s : Nat) (row : List Int) (a b c : Int) : Prop := ∃ t n e, Bs s row n e ∧ Six a b c (t % (6 * s + 1)) ((t + n) % (6 * s + 1)) ((t + e) % (6 * s + 1))
theorem Tri.swap {s : Nat} {row : List Int} {a b c : Int} (h : Tri s row a b c) : Tri s row b a c := by
  obtain ⟨t, n, e, hb, h⟩ := h
  refine ⟨t, n, e, hb, ?_⟩
  unfold Six at *
  rcases h with h | h | h | h | h | h <;> simp [h]
theorem Tri.rot {s : Nat} {row : List Int} {a b c : Int} (h : Tri s row a b c) : Tri s row b c a := by
  obtain ⟨t, n, e, hb, h⟩ := h
  refine ⟨t, n, e, hb, ?_⟩
  unfold Six at *
  rcases h with h | h | h | h | h | h <;> simp [h]
theorem Tri.last {s : Nat} {row : List Int} {a b c : Int} (h : Tri s row a b c) : Tri s row a c b := h.swap.rot
theorem emod_diff {v x y d : Int} (hv : 0 < v) (h : x - y = d) (h0 : 0 ≤ d) (h1 : d < v) : (x % v - y % v) % v = d := by
  rw [← Int.sub_emod, h]
  exact Int.emod_eq_of_lt h0 h1
theorem emod_neg {v d : Int} (h0 : 0 < d) (h1 : d < v) : (-d) % v = v - d := by
  rw [← Int.add_emod_right]
  have : -d + v = v - d := by omega
  rw [this]
  exact Int.emod_eq_of_lt (by omega) (by omega)
theorem emod_diff' {v x y d : Int} (hv : 0 < v) (h : y - x = d) (h0 : 0 < d) (h1 : d < v) : (x % v - y % v) % v = v - d := by
  rw [← Int.sub_emod]
  have : x - y = -d := by omega
  rw [this]
  exact emod_neg h0 h1
def Off (s : Nat) (row : List Int) (d k : Int) : Prop := ∃ n e, Bs s row n e ∧ ((d = n ∧ k = e) ∨ (d = e - n ∧ k = -n) ∨ (d = e ∧ k = n) ∨ (d = 6 * s + 1 - n ∧ k = e - n) ∨ (d = 6 * s + 1 - (e - n) ∧ k = -e) ∨ (d = 6 * s + 1 - e ∧ k = n - e))
theorem Off.un {s : Nat} {row : List Int} (h : RowOf s row) {d k k' : Int} (o : Off s row d k) (o' : Off s row d k') : k = k' := by
  obtain ⟨n, e, b, o⟩ := o
  obtain ⟨n', e', b', o'⟩ := o'
  have r := b.range h
  have r' := b'.range h
  obtain ⟨u1, u2, u3, u4, u5, u6⟩ := diff_un h b b'
  obtain ⟨w1, w2, w3, w4, w5, w6⟩ := diff_un h b' b
  rcases o with ⟨o, rfl⟩ | ⟨o, rfl⟩ | ⟨o, rfl⟩ | ⟨o, rfl⟩ | ⟨o, rfl⟩ | ⟨o, rfl⟩ <;> rcases o' with ⟨o', rfl⟩ | ⟨o', rfl⟩ | ⟨o', rfl⟩ | ⟨o', rfl⟩ | ⟨o', rfl⟩ | ⟨o', rfl⟩ <;> first | omega | skip
theorem Tri.off {s : Nat} {row : List Int} (hr : RowOf s row) {a b c : Int} (h : Tri s row a b c) : ∃ k, Off s row ((b - a) % (6 * s + 1)) k ∧ c = (a + k) % (6 * s + 1) := by
  obtain ⟨t, n, e, hb, h⟩ := h
  have r := hb.range hr
  have hv : (0 : Int) < 6 * s + 1 := by omega
  have key : ∀ x k : Int, (x % (6 * s + 1) + k) % (6 * s + 1) = (x + k) % (6 * s + 1) := fun x k => Int.emod_add_emod x _ k
  rcases h with ⟨rfl, rfl, rfl⟩ | ⟨rfl, rfl, rfl⟩ | ⟨rfl, rfl, rfl⟩ | ⟨rfl, rfl, rfl⟩ | ⟨rfl, rfl, rfl⟩ | ⟨rfl, rfl, rfl⟩
  · refine ⟨e, ⟨n, e, hb, .inl ⟨emod_diff hv (by omega) (by omega) (by omega), rfl⟩⟩, by rw [key]⟩
  · refine ⟨n, ⟨n, e, hb, .inr (.inr (.inl ⟨emod_diff hv (by omega) (by omega) (by omega), rfl⟩))⟩, by rw [key]⟩
  · refine ⟨e - n, ⟨n, e, hb, .inr (.inr (.inr (.inl ⟨emod_diff' hv (by omega) (by omega) (by omega), rfl⟩)))⟩, by rw [key]; congr 1; omega⟩
  · refine ⟨-n, ⟨n, e, hb, .inr (.inl ⟨emod_diff hv (by omega) (by omega) (by omega), rfl⟩)⟩, by rw [key]; congr 1; omega⟩
  · refine ⟨n - e, ⟨n, e, hb, .inr (.inr (.inr (.inr (.inr ⟨emod_diff' hv (by omega) (by omega) (by omega), rfl⟩))))⟩, by rw [key]; congr 1; omega⟩
  · refine ⟨-e, ⟨n, e, hb, .inr (.inr (.inr (.inr (.inl ⟨emod_diff' hv (by omega) (by omega) (by omega), rfl⟩))))⟩, by rw [key]; congr 1; omega⟩
theorem Tri.un {s : Nat} {row : List Int} (hr : RowOf s row) {a b c c' : Int} (h : Tri s row a b c) (h' : Tri s row a b c') : c = c' := by
  obtain ⟨k, o, rfl⟩ := h.off hr
  obtain ⟨k', o', rfl⟩ := h'.off hr
  rw [o.un hr o']
theorem Tri.ex {s : Nat} {row : List Int} (hr : RowOf s row) {a b : Int} (ha : 0 ≤ a) (ha' : a < 6 * s + 1) (hb : 0 ≤ b) (hb' : b < 6 * s + 1) (hne : a ≠ b) : ∃ c, Tri s row a b c := by
  have half : ∀ x y : Int, 0 ≤ x → x < 6 * s + 1 → 0 ≤ y → y < 6 * s + 1 → x ≠ y → (y - x) % (6 * s + 1) ≤ 3 * s → ∃ c, Tri s row x y c := by
    intro x y hx hx' hy hy' hn hd
    have d0 : 0 ≤ (y - x) % (6 * s + 1) := Int.emod_nonneg _ (by omega)
    have ey : (x + (y - x) % (6 * s + 1)) % (6 * s + 1) = y := by
      rw [Int.add_emod_emod]
      have : x + (y - x) = y := by omega
      rw [this]; exact Int.emod_eq_of_lt hy hy'
    have d1 : 1 ≤ (y - x) % (6 * s + 1) := by
      by_cases z : (y - x) % (6 * s + 1) = 0
      · rw [z, Int.add_zero, Int.emod_eq_of_lt hx hx'] at ey
        exact absurd ey hn
      · omega
    generalize (y - x) % (6 * s + 1) = d at *
    obtain ⟨n, e, b, hq⟩ := diff_ex hr d1 hd
    have ex : x % (6 * s + 1) = x := Int.emod_eq_of_lt hx hx'
    rcases hq with rfl | rfl | rfl
    · exact ⟨_, x, d, e, b, .inl ⟨ex.symm, ey.symm, rfl⟩⟩
    · refine ⟨_, x - n, n, e, b, .inr (.inr (.inr (.inl ⟨?_, ?_, rfl⟩)))⟩
      · rw [Int.sub_add_cancel, ex]
      · rw [← ey]; congr 1; omega
    · exact ⟨_, x, n, d, b, .inr (.inl ⟨ex.symm, ey.symm, rfl⟩)⟩
  by_cases hd : (b - a) % (6 * s + 1) ≤ 3 * s
  · exact half a b ha ha' hb hb' hne hd
  · have e2 : (a - b) % (6 * s + 1) ≤ 3 * s := by
      have m1 := Int.emod_lt_of_pos (b - a) (b := 6 * s + 1) (by omega)
      have m0 := Int.emod_nonneg (b - a) (b := 6 * s + 1) (by omega)
      by_cases hab : a ≤ b
      · have e1 : (b - a) % (6 * s + 1) = b - a := Int.emod_eq_of_lt (by omega) (by omega)
        have e3 : (a - b) % (6 * s + 1) = 6 * s + 1 - (b - a) := by
          have := emod_neg (v := 6 * s + 1) (d := b - a) (by omega) (by omega)
          have z : -(b - a) = a - b := by omega
          rw [z] at this; exact this
        omega
      · have e1 : (a - b) % (6 * s + 1) = a - b := Int.emod_eq_of_lt (by omega) (by omega)
        have e3 : (b - a) % (6 * s + 1) = 6 * s + 1 - (a - b) := by
          have := emod_neg (v := 6 * s + 1) (d := a - b) (by omega) (by omega)
          have z : -(a - b) = b - a := by omega
          rw [z] at this; exact this
        omega
    obtain ⟨c, hc⟩ := half b a hb hb' ha ha' (Ne.symm hne) e2
    exact ⟨c, hc.swap⟩
theorem Tri.ne {s : Nat} {row : List Int} (hr : RowOf s row) {a b c : Int} (h : Tri s row a b c) : a ≠ b := by
  intro z
  obtain ⟨k, ⟨n, e, hb, o⟩, _⟩ := h.off hr
  subst z
  have r := hb.range hr
  have : (a - a) % (6 * s + 1) = 0 := by rw [Int.sub_self]; rfl
  rw [this] at o
  omega
theorem Tri.person {s : Nat} {row : List Int} {a b c : Int} (h : Tri s row a b c) : 0 ≤ a ∧ a < 6 * s + 1 := by
  obtain ⟨t, n, e, hb, h⟩ := h
  have p : ∀ x : Int, 0 ≤ x % (6 * s + 1) ∧ x % (6 * s + 1) < 6 * s + 1 := fun x => ⟨Int.emod_nonneg _ (by omega), Int.emod_lt_of_pos _ (by omega)⟩
  rcases h with ⟨rfl, _, _⟩ | ⟨rfl, _, _⟩ | ⟨rfl, _, _⟩ | ⟨rfl, _, _⟩ | ⟨rfl, _, _⟩ | ⟨rfl, _, _⟩ <;> exact p _
theorem Tri.turn {s : Nat} {row : List Int} {a b c : Int} (h : Tri s row a b c) (r : Int) : Tri s row ((a + r) % (6 * s + 1)) ((b + r) % (6 * s + 1)) ((c + r) % (6 * s + 1)) := by
  obtain ⟨t, n, e, hb, h⟩ := h
  have key : ∀ x : Int, (x % (6 * s + 1) + r) % (6 * s + 1) = (x + r) % (6 * s + 1) := fun x => Int.emod_add_emod x _ r
  have k2 : t + r + n = t + n + r := by omega
  have k3 : t + r + e = t + e + r := by omega
  refine ⟨t + r, n, e, hb, ?_⟩
  rw [k2, k3, ← key t, ← key (t + n), ← key (t + e)]
  unfold Six at *
  rcases h with ⟨rfl, rfl, rfl⟩ | ⟨rfl, rfl, rfl⟩ | ⟨rfl, rfl, rfl⟩ | ⟨rfl, rfl, rfl⟩ | ⟨rfl, rfl, rfl⟩ | ⟨rfl, rfl, rfl⟩ <;> simp
theorem Tri.base {s : Nat} {row : List Int} {n e : Int} (b : Bs s row n e) (t : Int) : Tri s row (t % (6 * s + 1)) ((t + n) % (6 * s + 1)) ((t + e) % (6 * s + 1)) := ⟨t, n, e, b, .inl ⟨rfl, rfl, rfl⟩⟩
end SA
namespace Law
open PySem L2 SA
theorem smallM {n : Nat} (h : n ≤ 1000000) : n < sizeLine := by rw [sizeLine_eq]; exact Nat.lt_of_le_of_lt h (by decide)
def spPeople : Sp := fun vs H Q _ => ∃ (a : Addr) (row : List Int) (s : Nat), vs = [.ref a] ∧ H a = some (.lst (row.map V.int)) ∧ 1 ≤ s ∧ s ≤ 400 ∧ RowOf s row ∧ ∀ H', Same H H' → Q (.int (6 * s + 1)) H'
def spThird : Sp := fun vs H Q _ => ∃ (a : Addr) (row : List Int) (s : Nat) (x y : Int), vs = [.ref a, .int x, .int y] ∧ H a = some (.lst (row.map V.int)) ∧ 1 ≤ s ∧ s ≤ 400 ∧ RowOf s row ∧ 0 ≤ x ∧ x < 6 * s + 1 ∧ 0 ≤ y ∧ y < 6 * s + 1 ∧ x ≠ y ∧
  ∀ c H', Tri s row x y c → Same H H' → Q (.int c) H'
def Rising (x y z : Int) (ms : List Int) : Prop := ms.Perm [x, y, z] ∧ ms.Pairwise (· ≤ ·)
def spGroup : Sp := fun vs H Q _ => ∃ (a : Addr) (row : List Int) (s : Nat) (x y : Int), vs = [.ref a, .int x, .int y] ∧ H a = some (.lst (row.map V.int)) ∧ 1 ≤ s ∧ s ≤ 400 ∧ RowOf s row ∧ 0 ≤ x ∧ x < 6 * s + 1 ∧ 0 ≤ y ∧ y < 6 * s + 1 ∧ x ≠ y ∧
  ∀ c p ms H', Tri s row x y c → Rising x y c ms → H' p = some (.tup (ms.map V.int)) → Same H H' → Q (.ref p) H'
theorem rising_un {x y z : Int} {ms ms' : List Int} (h : Rising x y z ms) (h' : Rising x y z ms') : ms = ms' := by
  refine List.Perm.eq_of_pairwise (le := (· ≤ ·)) (fun a b _ _ h1 h2 => by omega) h.2 h'.2 (h.1.trans h'.1.symm)
theorem Rising.len {x y z : Int} {ms : List Int} (h : Rising x y z ms) : ms.length = 3 := h.1.length_eq
def mn (x y : Int) : Int := if y < x then y else x
def mx (x y : Int) : Int := if y > x then y else x
def pk (x y : Int) : List Key := [Sum.inl (mn x y), Sum.inl (mx x y)]
theorem pk_lt {x y : Int} (h : x ≠ y) : mn x y < mx x y := by unfold mn mx; split <;> split <;> omega
theorem Tri.pk {s : Nat} {row : List Int} {x y c : Int} (h : Tri s row x y c) : Tri s row (mn x y) (mx x y) c := by
  unfold mn mx
  split <;> split
  · omega
  · exact h.swap
  · exact h
  · have : x = y := by omega
    subst this; exact h
def Snd (s : Nat) (row : List Int) (kvs : List (List Key × V)) : Prop := ∀ k v, valV kvs k = some v → ∃ x y c : Int, k = [Sum.inl x, Sum.inl y] ∧ x < y ∧ v = .int c ∧ Tri s row x y c
theorem Snd.put {s : Nat} {row : List Int} {kvs : List (List Key × V)} (h : Snd s row kvs) (hr : RowOf s row) {x y c : Int} (t : Tri s row x y c) : Snd s row (putK kvs (pk x y) (.int c)) := by
  intro k v e
  rw [valV_put] at e
  by_cases z : k = pk x y
  · rw [if_pos z] at e
    cases e
    exact ⟨_, _, c, z, pk_lt (t.ne hr), rfl, Tri.pk t⟩
  · rw [if_neg z] at e
    exact h k v e
def Has (kvs : List (List Key × V)) (x y : Int) : Prop := valV kvs (pk x y) ≠ none
theorem Has.put {kvs : List (List Key × V)} {x y : Int} (h : Has kvs x y) (k : List Key) (v : V) : Has (putK kvs k v) x y := by
  unfold Has at *
  rw [valV_put]
  split
  · simp
  · exact h
theorem Has.here (kvs : List (List Key × V)) (x y : Int) (v : V) : Has (putK kvs (pk x y) v) x y := by
  unfold Has
  rw [valV_put, if_pos rfl]; simp
structure Hs3 (s : Nat) (kvs : List (List Key × V)) (n e t : Int) : Prop where
  a : Has kvs ((0 + t) % (6 * s + 1)) ((n + t) % (6 * s + 1))
  b : Has kvs ((n + t) % (6 * s + 1)) ((e + t) % (6 * s + 1))
  c : Has kvs ((0 + t) % (6 * s + 1)) ((e + t) % (6 * s + 1))
theorem Hs3.put {s : Nat} {kvs : List (List Key × V)} {n e t : Int} (h : Hs3 s kvs n e t) (k : List Key) (v : V) : Hs3 s (putK kvs k v) n e t := ⟨h.a.put k v, h.b.put k v, h.c.put k v⟩
end Law
namespace Law
open PySem L2 SA
open Classical in
noncomputable def isG (s : Nat) (row : List Int) (x y z : Int) : Bool := decide (x < y ∧ y < z ∧ Tri s row x y z)
theorem isG_iff {s : Nat} {row : List Int} {x y z : Int} : isG s row x y z = true ↔ x < y ∧ y < z ∧ Tri s row x y z := by unfold isG; simp
theorem isG_no {s : Nat} {row : List Int} {x y z : Int} (h : ¬ (x < y ∧ y < z ∧ Tri s row x y z)) : isG s row x y z = false := by
  cases e : isG s row x y z with
  | false => rfl
  | true => exact absurd (isG_iff.mp e) h
def spIsGroup : Sp := fun vs H Q _ => ∃ (a p : Addr) (row : List Int) (s : Nat) (x y z : Int), vs = [.ref a, .ref p] ∧ H a = some (.lst (row.map V.int)) ∧ H p = some (.tup [.int x, .int y, .int z]) ∧ 1 ≤ s ∧ s ≤ 400 ∧ RowOf s row ∧ ∀ H', Same H H' → Q (.bl (isG s row x y z)) H'
theorem perm3 {α : Type} {a b c x y z : α} (h : [a, b, c].Perm [x, y, z]) : (a = x ∧ b = y ∧ c = z) ∨ (a = x ∧ b = z ∧ c = y) ∨ (a = y ∧ b = x ∧ c = z) ∨ (a = y ∧ b = z ∧ c = x) ∨ (a = z ∧ b = x ∧ c = y) ∨ (a = z ∧ b = y ∧ c = x) := by
  have two : ∀ {b c y z : α}, [b, c].Perm [y, z] → (b = y ∧ c = z) ∨ (b = z ∧ c = y) := by
    intro b c y z h
    have hb : b ∈ [y, z] := h.mem_iff.mp (by simp)
    simp only [List.mem_cons, List.not_mem_nil, or_false] at hb
    rcases hb with rfl | rfl
    · have := List.Perm.cons_inv h
      have := List.perm_singleton.mp this
      injection this with e _
      exact .inl ⟨rfl, e⟩
    · have := List.Perm.cons_inv (h.trans (List.Perm.swap b y []))
      have := List.perm_singleton.mp this
      injection this with e _
      exact .inr ⟨rfl, e⟩
  have ha : a ∈ [x, y, z] := h.mem_iff.mp (by simp)
  simp only [List.mem_cons, List.not_mem_nil, or_false] at ha
  rcases ha with rfl | rfl | rfl
  · rcases two (List.Perm.cons_inv h) with ⟨rfl, rfl⟩ | ⟨rfl, rfl⟩ <;> simp
  · rcases two (List.Perm.cons_inv (h.trans (List.Perm.swap a x [z]))) with ⟨rfl, rfl⟩ | ⟨rfl, rfl⟩ <;> simp
  · have hp : [x, y, a].Perm [a, x, y] := (List.Perm.cons x (List.Perm.swap a y [])).trans (List.Perm.swap a x [y])
    rcases two (List.Perm.cons_inv (h.trans hp)) with ⟨rfl, rfl⟩ | ⟨rfl, rfl⟩ <;> simp
theorem tri_perm {s : Nat} {row : List Int} {a b c x y z : Int} (h : [a, b, c].Perm [x, y, z]) (t : Tri s row a b c) : Tri s row x y z := by
  rcases perm3 h with ⟨rfl, rfl, rfl⟩ | ⟨rfl, rfl, rfl⟩ | ⟨rfl, rfl, rfl⟩ | ⟨rfl, rfl, rfl⟩ | ⟨rfl, rfl, rfl⟩ | ⟨rfl, rfl, rfl⟩
  · exact t
  · exact t.last
  · exact t.swap
  · exact t.rot.rot
  · exact t.rot
  · exact t.rot.swap
theorem Rising.three {x y z : Int} {ms : List Int} (h : Rising x y z ms) : ∃ m0 m1 m2, ms = [m0, m1, m2] ∧ m0 ≤ m1 ∧ m1 ≤ m2 ∧ [m0, m1, m2].Perm [x, y, z] := by
  have hl := h.len
  match ms, hl with
  | [m0, m1, m2], _ =>
    obtain ⟨hp, hw⟩ := h
    simp only [List.pairwise_cons, List.mem_cons, List.not_mem_nil, or_false, forall_eq_or_imp, forall_eq] at hw
    exact ⟨m0, m1, m2, rfl, hw.1.1, hw.2.1, hp⟩
theorem rising_perm {x y z x' y' z' : Int} {ms : List Int} (h : Rising x y z ms) (hp : [x, y, z].Perm [x', y', z']) : Rising x' y' z' ms := ⟨h.1.trans hp, h.2⟩
end Law
namespace L2
open PySem PySem.Spec PySem.Calls PyProof.Rows
section
variable {X : Cx}
def rSumT (K : PySem.W.Frag) : List V → Hp → VK → Prop := fun xs H Q => ∃ (p : Addr) (ns : List Int), xs = [.ref p] ∧ SqT K H p (ns.map V.int) ∧ Q (.int ns.sum) H
theorem call_sumT (hc : X.calm = true) : CallR X (.builtin "sum") (rSumT X.K) := by
  intro pins s σ H xs us Q I r h
  obtain ⟨p, ns, rfl, hq, q⟩ := h
  obtain ⟨u, rfl, rx⟩ := vals1 r
  cases rx
  obtain ⟨its, r', pl, hz⟩ := I.tuple hq
  have hi := ints_of_vals r'
  obtain ⟨ws, e⟩ := hi.allInts.items
  have hns : ns = ws.toList.map (·.1) := by rw [← hi.numsOf, ← nums_intItems, ← e]
  have ht : s.heap.IsTuple p its.toArray := pl
  rw [e] at ht
  have hlt : p < s.heap.objs.size := by obtain ⟨_, z, _⟩ := ht; exact Heap.lt_size z
  refine call_sum_walkG (wpAny_pyIter_tuple ht ?_)
  refine ⟨_, _, _, _, _, _, numAt ws, rfl, Walks.tuple (A := X.A.in1) (I.ok.hd hc) _ p (Nat.ne_of_lt hlt) (intItems ws), ⟨⟨_, Heap.get?_push_size _ rfl, rfl, rfl⟩, ht.at fun o z => Heap.get?_push_of_some _ z⟩, fun b hb => ?_, fun _ _ => intItems_at, fun h' tk t' hk => ?_⟩
  · show b < (s.heap.push _).objs.size
    rw [Heap.size_push]
    rcases List.mem_cons.mp hb with rfl | hb
    · exact Nat.lt_succ_self _
    · rcases List.mem_cons.mp hb with rfl | hb
      · exact Nat.lt_succ_of_lt hlt
      · cases hb
  · have es : preSum (numAt ws) (intItems ws).size = ns.sum := by
      rw [hns, preSum_eq, List.take_of_length_le (by simp [intItems])]
    refine ⟨.int _, H, I.kept (t' := tk) (fun b o z => hk b o (fun hb => ?_) (Heap.get?_push_of_some _ z)), ⟨t', rfl⟩, by rw [es]; exact q⟩
    have hb : b = s.heap.objs.size := by simpa using hb
    exact Nat.lt_irrefl _ (hb ▸ Heap.lt_size z)
theorem op_in_seqK {K : PySem.W.Frag} (h : X.K = K) : OpR X (compareOp .In) (rIn K false) := by subst h; exact op_in_seq
end
end L2
namespace Law
open PySem L2 SA
def spIsPerson : Sp := fun vs H Q _ => ∃ (x c : Int), vs = [.int x, .int c] ∧ Q (.bl (decide (0 ≤ x ∧ x < c))) H
def spTwoP : Sp := fun vs H Q _ => ∃ (x y c : Int), vs = [.int x, .int y, .int c] ∧ Q (.bl (decide ((0 ≤ x ∧ x < c) ∧ (0 ≤ y ∧ y < c) ∧ x ≠ y))) H
def spBase : Sp := fun vs H Q _ => ∃ (a : Addr) (row : List Int) (s : Nat) (n e : Int), vs = [.ref a, .int n] ∧ H a = some (.lst (row.map V.int)) ∧ s ≤ 400 ∧ RowOf s row ∧ Bs s row n e ∧ ∀ p, H p = none → Q (.ref p) (upd H p (.tup [.int 0, .int n, .int e]))
def spTurned : Sp := fun vs H Q _ => ∃ (p : Addr) (x y z t c : Int), vs = [.ref p, .int t, .int c] ∧ H p = some (.tup [.int x, .int y, .int z]) ∧ 0 < c ∧
  ∀ g ms H', H g = none → H' g = some (.tup (ms.map V.int)) → Rising ((x + t) % c) ((y + t) % c) ((z + t) % c) ms → Same H H' → Q (.ref g) H'
def spTurnedTo : Sp := fun vs H Q _ => ∃ (p : Addr) (x y z t c : Int), vs = [.ref p, .int t, .int c] ∧ H p = some (.tup [.int x, .int y, .int z]) ∧ 0 < c ∧
  ∀ l xs m0 m1 m2 H', H l = none → H' l = some (.lst xs) → TL H' xs [m0, m1, m2] → Rising ((x + (t - x)) % c) ((y + (t - x)) % c) ((z + (t - x)) % c) m0 → Rising ((x + (t - y)) % c) ((y + (t - y)) % c) ((z + (t - y)) % c) m1 → Rising ((x + (t - z)) % c) ((y + (t - z)) % c) ((z + (t - z)) % c) m2 → Same H H' → Q (.ref l) H'
def spNumStep : Sp := fun vs H Q _ => ∃ (a : Addr) (row : List Int) (s : Nat) (d n e : Int), vs = [.ref a, .int d] ∧ H a = some (.lst (row.map V.int)) ∧ s ≤ 400 ∧ RowOf s row ∧ Bs s row n e ∧ (d = n ∨ d = e - n ∨ d = e) ∧ Q (.int n) H
def spGot : Sp := fun vs H Q _ => ∃ (a : Addr) (row : List Int) (s : Nat) (x y c : Int), vs = [.ref a, .int x, .int y, .int c] ∧ H a = some (.lst (row.map V.int)) ∧ 1 ≤ s ∧ s ≤ 400 ∧ RowOf s row ∧ c = 6 * s + 1 ∧ 0 ≤ x ∧ x < c ∧ 0 ≤ y ∧ y < c ∧ x ≠ y ∧
  ∀ z p ms H', Tri s row x y z → Rising x y z ms → H' p = some (.tup (ms.map V.int)) → Same H H' → Q (.ref p) H'
theorem tri_of_mem {s : Nat} {row : List Int} {a b c x y : Int} {ms : List Int} (h : Tri s row a b c) (r : Rising a b c ms) (hx : x ∈ ms) (hy : y ∈ ms) (hne : x ≠ y) : ∃ z, Tri s row x y z ∧ Rising x y z ms := by
  have hx := r.1.mem_iff.mp hx
  have hy := r.1.mem_iff.mp hy
  have key : ∀ z, [a, b, c].Perm [x, y, z] → ∃ z, Tri s row x y z ∧ Rising x y z ms := fun z hp => ⟨z, tri_perm hp h, rising_perm r hp⟩
  have sw : ∀ u v w : Int, [u, v, w].Perm [v, u, w] := fun u v w => List.Perm.swap v u [w]
  have la : ∀ u v w : Int, [u, v, w].Perm [u, w, v] := fun u v w => List.Perm.cons u (List.Perm.swap w v [])
  simp only [List.mem_cons, List.not_mem_nil, or_false] at hx hy
  rcases hx with rfl | rfl | rfl <;> rcases hy with rfl | rfl | rfl
  · exact absurd rfl hne
  · exact key c (List.Perm.refl _)
  · exact key b (la _ _ _)
  · exact key c (sw _ _ _)
  · exact absurd rfl hne
  · exact key a ((sw _ _ _).trans (la _ _ _))
  · exact key b ((la _ _ _).trans (sw _ _ _))
  · exact key a (((sw _ _ _).trans (la _ _ _)).trans (sw _ _ _))
  · exact absurd rfl hne
theorem tri_to {s : Nat} {row : List Int} {n e : Int} (b : Bs s row n e) (t : Int) : Tri s row ((0 + t) % (6 * s + 1)) ((n + t) % (6 * s + 1)) ((e + t) % (6 * s + 1)) := by
  have := Tri.base b t
  rw [Int.zero_add, Int.add_comm n t, Int.add_comm e t]; exact this
theorem mod_self {x c : Int} (h0 : 0 ≤ x) (h1 : x < c) (m : Int) : (m + (x - m)) % c = x := by
  have e : m + (x - m) = x := by omega
  rw [e]; exact Int.emod_eq_of_lt h0 h1
theorem step_of {s : Nat} {x y : Int} (hx : 0 ≤ x) (hx' : x < 6 * s + 1) (hy : 0 ≤ y) (hy' : y < 6 * s + 1) (hne : x ≠ y) :
    ∃ d : Int, (if (x - y) % (6 * s + 1) < (y - x) % (6 * s + 1) then (x - y) % (6 * s + 1) else (y - x) % (6 * (s : Int) + 1)) = d ∧ 1 ≤ d ∧ d ≤ 3 * s ∧ (y = (x + d) % (6 * s + 1) ∨ y = (x - d) % (6 * s + 1)) := by
  refine ⟨_, rfl, ?_⟩
  by_cases h : x ≤ y
  · have e1 : (y - x) % (6 * (s : Int) + 1) = y - x := Int.emod_eq_of_lt (by omega) (by omega)
    have e2 : (x - y) % (6 * (s : Int) + 1) = 6 * s + 1 - (y - x) := by
      have := emod_neg (v := 6 * (s : Int) + 1) (d := y - x) (by omega) (by omega)
      have z : -(y - x) = x - y := by omega
      rw [z] at this; exact this
    rw [e1, e2]
    split
    · refine ⟨by omega, by omega, .inr ?_⟩
      have z : x - (6 * (s : Int) + 1 - (y - x)) = y - (6 * s + 1) := by omega
      rw [z, Int.sub_emod, Int.emod_self, Int.sub_zero, Int.emod_emod_of_dvd _ (Int.dvd_refl _)]
      exact (Int.emod_eq_of_lt hy hy').symm
    · refine ⟨by omega, by omega, .inl ?_⟩
      have z : x + (y - x) = y := by omega
      rw [z]; exact (Int.emod_eq_of_lt hy hy').symm
  · have e1 : (x - y) % (6 * (s : Int) + 1) = x - y := Int.emod_eq_of_lt (by omega) (by omega)
    have e2 : (y - x) % (6 * (s : Int) + 1) = 6 * s + 1 - (x - y) := by
      have := emod_neg (v := 6 * (s : Int) + 1) (d := x - y) (by omega) (by omega)
      have z : -(x - y) = y - x := by omega
      rw [z] at this; exact this
    rw [e1, e2]
    split
    · refine ⟨by omega, by omega, .inr ?_⟩
      have z : x - (x - y) = y := by omega
      rw [z]; exact (Int.emod_eq_of_lt hy hy').symm
    · refine ⟨by omega, by omega, .inl ?_⟩
      have z : x + (6 * (s : Int) + 1 - (x - y)) = y + (6 * s + 1) := by omega
      rw [z, Int.add_emod_right]
      exact (Int.emod_eq_of_lt hy hy').symm
theorem one_has {s : Nat} {row : List Int} {n e d x y : Int} (b : Bs s row n e) (hd : d = n ∨ d = e - n ∨ d = e) (hy : y = (x + d) % (6 * s + 1) ∨ y = (x - d) % (6 * s + 1)) {m0 m1 m2 : List Int}
    (r0 : Rising ((0 + (x - 0)) % (6 * s + 1)) ((n + (x - 0)) % (6 * s + 1)) ((e + (x - 0)) % (6 * s + 1)) m0) (r1 : Rising ((0 + (x - n)) % (6 * s + 1)) ((n + (x - n)) % (6 * s + 1)) ((e + (x - n)) % (6 * s + 1)) m1)
    (r2 : Rising ((0 + (x - e)) % (6 * s + 1)) ((n + (x - e)) % (6 * s + 1)) ((e + (x - e)) % (6 * s + 1)) m2) : y ∈ m0 ∨ y ∈ m1 ∨ y ∈ m2 := by
  have c1 : ∀ {u v w : Int} {ms : List Int}, Rising u v w ms → u ∈ ms ∧ v ∈ ms ∧ w ∈ ms := fun r => ⟨r.1.mem_iff.mpr (by simp), r.1.mem_iff.mpr (by simp), r.1.mem_iff.mpr (by simp)⟩
  have a0 := c1 r0
  have a1 := c1 r1
  have a2 := c1 r2
  have g : ∀ {u v : Int}, u = v → (u % (6 * (s : Int) + 1)) = v % (6 * s + 1) := fun h => by rw [h]
  rcases hd with rfl | rfl | rfl
  · rcases hy with rfl | rfl
    · left; rw [g (show x + d = d + (x - 0) by omega)]; exact a0.2.1
    · right; left; rw [g (show x - d = 0 + (x - d) by omega)]; exact a1.1
  · rcases hy with rfl | rfl
    · right; left; rw [g (show x + (e - n) = e + (x - n) by omega)]; exact a1.2.2
    · right; right; rw [g (show x - (e - n) = n + (x - e) by omega)]; exact a2.2.1
  · rcases hy with rfl | rfl
    · left; rw [g (show x + d = d + (x - 0) by omega)]; exact a0.2.2
    · right; right; rw [g (show x - d = 0 + (x - d) by omega)]; exact a2.1
theorem rising_mem {u v w : Int} {ms : List Int} (r : Rising u v w ms) : u ∈ ms ∧ v ∈ ms ∧ w ∈ ms := ⟨r.1.mem_iff.mpr (by simp), r.1.mem_iff.mpr (by simp), r.1.mem_iff.mpr (by simp)⟩
end Law
namespace TS
open PySem PyProof.Rows
def gallop' : Bool → Keyed → Array Keyed → Nat → Nat → Nat → StateT SortSt Sem (Option Nat) := sortPriv% PySem.Builtin.gallop
def setMin' : Nat → StateT SortSt Sem Unit := sortPriv% PySem.Builtin.setMinGallop
def mergeLo' : Array Keyed → Array Keyed → StateT SortSt Sem (Array Keyed) := sortPriv% PySem.Builtin.mergeLo
def mergeHi' : Array Keyed → Array Keyed → StateT SortSt Sem (Array Keyed) := sortPriv% PySem.Builtin.mergeHi
theorem gallop'_eq (left : Bool) (key : Keyed) (arr : Array Keyed) (bs n hint : Nat) : gallop' left key arr bs n hint = (do
  let look := fun (i : Nat) => (do let x ← elem' arr (bs + i); (if left then lt' x key else do return (← lt' key x).map (!·)) : StateT SortSt Sem (Option Bool))
  let mut p := 0
  let mut o := 1
  let mut lo := 0
  let mut hi := 0
  let some g ← look hint | return none
  if g then
    let most := n - hint
    for _ in [0:n] do
      if o ≥ most then break
      let some far ← look (hint + o) | return none
      if !far then break
      p := o
      o := 2 * o + 1
    lo := hint + p + 1
    hi := hint + min o most
  else
    let most := hint + 1
    for _ in [0:n] do
      if o ≥ most then break
      let some there ← look (hint - o) | return none
      if there then break
      p := o
      o := 2 * o + 1
    lo := hint + 1 - min o most
    hi := hint - p
  for _ in [0:n] do
    if lo ≥ hi then break
    let mid := lo + (hi - lo) / 2
    let some far ← look mid | return none
    if far then lo := mid + 1 else hi := mid
  return some hi) := rfl
structure Cmp (prog : Program) (w : World) (A : Around) (s : Shared) (κ : SortKind) (rk : Keyed → Int) (D : Keyed → Prop) : Prop where
  lt : ∀ x y, D x → D y → ∀ (E : Value → Shared → Prop) (Q : Bool → Shared → Prop), Q (decide (rk x < rk y)) s → wpAny (model prog w) A (keyLt' κ x.1 y.1) Q E s
section
variable {prog : Program} {w : World} {A : Around} {E : Value → Shared → Prop} {s : Shared} {κ : SortKind} {rk : Keyed → Int} {D : Keyed → Prop}
theorem lt_ok (C : Cmp prog w A s κ rk D) {st : SortSt} (hk : kindOf st = κ) {x y : Keyed} (hx : D x) (hy : D y) {Q : Option Bool → SortSt → Prop} (h : Q (some (decide (rk x < rk y))) st) :
    wpS (model prog w) A E s (lt' x y) Q st := by
  rw [lt'_eq]
  refine wpS_bind (wpS_get ?_)
  rw [hk]
  exact wpS_bind (wpS_lift (wpAny_attempt (C.lt x y hx hy _ _ ⟨rfl, wpS_pure h⟩)))
theorem elem_ok {st : SortSt} {arr : Array Keyed} {i : Nat} {x : Keyed} (hx : arr[i]? = some x) {Q : Keyed → SortSt → Prop} (h : Q x st) : wpS (model prog w) A E s (elem' arr i) Q st := by
  rw [elem'_eq, hx]
  exact wpS_pure h
theorem look_ok (C : Cmp prog w A s κ rk D) {st : SortSt} (hk : kindOf st = κ) {left : Bool} {key x : Keyed} {arr : Array Keyed} {i : Nat} (hx : arr[i]? = some x) (dx : D x) (dk : D key) {Q : Option Bool → SortSt → Prop}
    (h : Q (some (if left then decide (rk x < rk key) else decide (rk x ≤ rk key))) st) :
    wpS (model prog w) A E s (do let x ← elem' arr i; if left = true then lt' x key else do let r ← lt' key x; pure (Option.map (fun b => !b) r)) Q st := by
  refine wpS_bind (elem_ok hx ?_)
  cases left with
  | true => exact lt_ok C hk dx dk h
  | false =>
    refine wpS_bind (lt_ok C hk dk dx (wpS_pure ?_))
    have e : (!decide (rk key < rk x)) = decide (rk x ≤ rk key) := by
      by_cases z : rk key < rk x
      · simp [z]
      · simp [z]; omega
    show Q (some (!decide (rk key < rk x))) st
    rw [e]; exact h
theorem bs_ok {n : Nat} {f : Nat → Bool} {st : SortSt} {body : Nat → Option (Option Nat) × Nat × Nat → StateT SortSt Sem (ForInStep (Option (Option Nat) × Nat × Nat))} {lo hi : Nat}
    (stop : ∀ x lo hi (Q : ForInStep (Option (Option Nat) × Nat × Nat) → SortSt → Prop), lo ≥ hi → Q (.done (none, lo, hi)) st → wpS (model prog w) A E s (body x (none, lo, hi)) Q st)
    (turn : ∀ x lo hi (Q : ForInStep (Option (Option Nat) × Nat × Nat) → SortSt → Prop), lo < hi → hi ≤ n → (f (lo + (hi - lo) / 2) = true → Q (.yield (none, lo + (hi - lo) / 2 + 1, hi)) st) → (f (lo + (hi - lo) / 2) = false → Q (.yield (none, lo, lo + (hi - lo) / 2)) st) → wpS (model prog w) A E s (body x (none, lo, hi)) Q st)
    (mono : ∀ i j, i ≤ j → j < n → f j = true → f i = true) (h1 : lo ≤ hi) (h2 : hi ≤ n) (h3 : ∀ i, i < lo → f i = true) (h4 : ∀ i, hi ≤ i → i < n → f i = false) :
    wpS (model prog w) A E s (forIn [0:n] (none, lo, hi) body) (fun c st' => st' = st ∧ ∃ k, c = (none, k, k) ∧ k ≤ n ∧ (∀ i, i < k → f i = true) ∧ ∀ i, k ≤ i → i < n → f i = false) st := by
  refine wpS_forRange (I := fun x c st' => st' = st ∧ ∃ lo hi, c = (none, lo, hi) ∧ lo ≤ hi ∧ hi ≤ n ∧ hi - lo ≤ n - x ∧ (∀ i, i < lo → f i = true) ∧ ∀ i, hi ≤ i → i < n → f i = false) ?_ ?_ ⟨rfl, lo, hi, rfl, h1, h2, by omega, h3, h4⟩
  · rintro x c st' _ hx ⟨rfl, lo, hi, rfl, g1, g2, g3, g4, g5⟩
    by_cases hc : lo ≥ hi
    · have e : lo = hi := by omega
      subst e
      exact stop x lo lo _ hc ⟨rfl, lo, rfl, g2, g4, g5⟩
    · refine turn x lo hi _ (by omega) g2 (fun hf => ⟨rfl, _, _, rfl, by omega, g2, by omega, fun i hi' => ?_, g5⟩) (fun hf => ⟨rfl, _, _, rfl, by omega, by omega, by omega, g4, fun i hi' hin => ?_⟩)
      · exact mono i (lo + (hi - lo) / 2) (by omega) (by omega) hf
      · cases e : f i with
        | false => rfl
        | true => rw [mono _ i hi' hin e] at hf; cases hf
  · rintro c st' ⟨rfl, lo, hi, rfl, g1, g2, g3, g4, g5⟩
    have e : lo = hi := by omega
    subst e
    exact ⟨rfl, lo, rfl, g2, g4, g5⟩
theorem gallop_ok (C : Cmp prog w A s κ rk D) {st : SortSt} (hk : kindOf st = κ) {left : Bool} {key : Keyed} {arr : Array Keyed} {bs n hint : Nat} (dk : D key) (hget : ∀ i, i < n → ∃ x, arr[bs + i]? = some x ∧ D x) {f : Nat → Bool}
    (hf : ∀ i x, i < n → arr[bs + i]? = some x → f i = if left then decide (rk x < rk key) else decide (rk x ≤ rk key)) (mono : ∀ i j, i ≤ j → j < n → f j = true → f i = true) (hh : hint < n) {Q : Option Nat → SortSt → Prop}
    (h : ∀ k, k ≤ n → (∀ i, i < k → f i = true) → (∀ i, k ≤ i → i < n → f i = false) → Q (some k) st) : wpS (model prog w) A E s (gallop' left key arr bs n hint) Q st := by
  have look : ∀ i, i < n → ∀ (Q : Option Bool → SortSt → Prop), Q (some (f i)) st → wpS (model prog w) A E s (do let x ← elem' arr (bs + i); if left = true then lt' x key else do let r ← lt' key x; pure (Option.map (fun b => !b) r)) Q st := fun i hi Q q => by
    obtain ⟨x, hx, dx⟩ := hget i hi
    rw [hf i x hi hx] at q
    exact look_ok C hk hx dx dk q
  have stopL : ∀ (lo hi : Nat), lo ≤ hi → hi ≤ n → (∀ i, i < lo → f i = true) → (∀ i, hi ≤ i → i < n → f i = false) → ∀ {body : Nat → Option (Option Nat) × Nat × Nat → StateT SortSt Sem (ForInStep (Option (Option Nat) × Nat × Nat))} {k : Option (Option Nat) × Nat × Nat → StateT SortSt Sem (Option Nat)},
      (∀ x lo hi (Q : ForInStep (Option (Option Nat) × Nat × Nat) → SortSt → Prop), lo ≥ hi → Q (.done (none, lo, hi)) st → wpS (model prog w) A E s (body x (none, lo, hi)) Q st) →
      (∀ x lo hi (Q : ForInStep (Option (Option Nat) × Nat × Nat) → SortSt → Prop), lo < hi → hi ≤ n → (f (lo + (hi - lo) / 2) = true → Q (.yield (none, lo + (hi - lo) / 2 + 1, hi)) st) → (f (lo + (hi - lo) / 2) = false → Q (.yield (none, lo, lo + (hi - lo) / 2)) st) → wpS (model prog w) A E s (body x (none, lo, hi)) Q st) →
      (∀ m, k (none, m, m) = pure (some m)) → wpS (model prog w) A E s (forIn [0:n] (none, lo, hi) body >>= k) Q st := fun lo hi a1 a2 a3 a4 body k b1 b2 b3 => by
    refine wpS_bind (wpS_mono (bs_ok (f := f) b1 b2 mono a1 a2 a3 a4) ?_)
    rintro c st' ⟨rfl, m, rfl, c1, c2, c3⟩
    rw [b3]
    exact wpS_pure (h m c1 c2 c3)
  rw [gallop'_eq]
  dsimp only
  refine wpS_bind (look hint hh _ ?_)
  dsimp only
  cases hr : f hint with
  | true =>
    rw [if_pos rfl]
    refine wpS_bind (wpS_mono (wpS_forRange (I := fun x c st' => st' = st ∧ ∃ a b, c = (none, a, b) ∧ a < b ∧ x + 1 ≤ b ∧ hint + a < n ∧ f (hint + a) = true)
      (Q := fun c st' => st' = st ∧ ∃ a b, c = (none, a, b) ∧ a < b ∧ hint + a < n ∧ f (hint + a) = true ∧ (b ≥ n - hint ∨ f (hint + b) = false)) ?_ ?_ ⟨rfl, 0, 1, rfl, by omega, by omega, by omega, hr⟩) ?_)
    · rintro x c st' _ hx ⟨rfl, a, b, rfl, g1, g2, g3, g4⟩
      dsimp only
      by_cases hc : b ≥ n - hint
      · rw [if_pos hc]; exact wpS_pure ⟨rfl, a, b, rfl, g1, g3, g4, .inl hc⟩
      · rw [if_neg hc]
        refine wpS_bind (look (hint + b) (by omega) _ ?_)
        dsimp only
        cases e : f (hint + b) with
        | true => rw [if_neg (by decide)]; exact wpS_pure ⟨rfl, b, 2 * b + 1, rfl, by omega, by omega, by omega, e⟩
        | false => rw [if_pos (show (!false) = true from rfl)]; exact wpS_pure ⟨rfl, a, b, rfl, g1, g3, g4, .inr e⟩
    · rintro c st' ⟨rfl, a, b, rfl, g1, g2, g3, g4⟩
      exact ⟨rfl, a, b, rfl, g1, g3, g4, .inl (by omega)⟩
    · rintro c st' ⟨rfl, a, b, rfl, g1, g3, g4, g5⟩
      dsimp only
      have hle : hint + a + 1 ≤ hint + min b (n - hint) := by omega
      refine stopL _ _ hle (by omega) (fun i hi => mono i (hint + a) (by omega) g3 g4) (fun i hi hin => ?_) (fun x lo hi Q hc q => ?_) (fun x lo hi Q h1 h2 q1 q2 => ?_) (fun m => rfl)
      · rcases g5 with g5 | g5
        · omega
        · cases e : f i with
          | false => rfl
          | true => rw [mono (hint + b) i (by omega) hin e] at g5; cases g5
      · dsimp only
        rw [if_pos hc]; exact wpS_pure q
      · dsimp only
        rw [if_neg (by omega)]
        refine wpS_bind (look _ (by omega) _ ?_)
        dsimp only
        cases e : f (lo + (hi - lo) / 2) with
        | true => rw [if_pos rfl]; exact wpS_pure (q1 e)
        | false => rw [if_neg (by decide)]; exact wpS_pure (q2 e)
  | false =>
    rw [if_neg (by decide)]
    refine wpS_bind (wpS_mono (wpS_forRange (I := fun x c st' => st' = st ∧ ∃ a b, c = (none, a, b) ∧ a < b ∧ x + 1 ≤ b ∧ a ≤ hint ∧ f (hint - a) = false)
      (Q := fun c st' => st' = st ∧ ∃ a b, c = (none, a, b) ∧ a < b ∧ a ≤ hint ∧ f (hint - a) = false ∧ (b ≥ hint + 1 ∨ f (hint - b) = true)) ?_ ?_ ⟨rfl, 0, 1, rfl, by omega, by omega, by omega, hr⟩) ?_)
    · rintro x c st' _ hx ⟨rfl, a, b, rfl, g1, g2, g3, g4⟩
      dsimp only
      by_cases hc : b ≥ hint + 1
      · rw [if_pos hc]; exact wpS_pure ⟨rfl, a, b, rfl, g1, g3, g4, .inl hc⟩
      · rw [if_neg hc]
        refine wpS_bind (look (hint - b) (by omega) _ ?_)
        dsimp only
        cases e : f (hint - b) with
        | false => rw [if_neg (by decide)]; exact wpS_pure ⟨rfl, b, 2 * b + 1, rfl, by omega, by omega, by omega, e⟩
        | true => rw [if_pos rfl]; exact wpS_pure ⟨rfl, a, b, rfl, g1, g3, g4, .inr e⟩
    · rintro c st' ⟨rfl, a, b, rfl, g1, g2, g3, g4⟩
      exact ⟨rfl, a, b, rfl, g1, g3, g4, .inl (by omega)⟩
    · rintro c st' ⟨rfl, a, b, rfl, g1, g3, g4, g5⟩
      dsimp only
      refine stopL _ _ (by omega) (by omega) (fun i hi => ?_) (fun i hi hin => ?_) (fun x lo hi Q hc q => ?_) (fun x lo hi Q h1 h2 q1 q2 => ?_) (fun m => rfl)
      · rcases g5 with g5 | g5
        · omega
        · exact mono i (hint - b) (by omega) (by omega) g5
      · cases e : f i with
        | false => rfl
        | true => rw [mono (hint - a) i (by omega) hin e] at g4; cases g4
      · dsimp only
        rw [if_pos hc]; exact wpS_pure q
      · dsimp only
        rw [if_neg (by omega)]
        refine wpS_bind (look _ (by omega) _ ?_)
        dsimp only
        cases e : f (lo + (hi - lo) / 2) with
        | true => rw [if_pos rfl]; exact wpS_pure (q1 e)
        | false => rw [if_neg (by decide)]; exact wpS_pure (q2 e)
end
end TS
namespace TS
open PySem PyProof.Rows
abbrev Up (rk : Keyed → Int) (l : List Keyed) : Prop := l.Pairwise fun x y => rk x ≤ rk y
def Done (rk : Keyed → Int) (a b r : Array Keyed) : Prop := r.toList.Perm (a.toList ++ b.toList) ∧ Up rk r.toList
structure MI (rk : Keyed → Int) (a b out : Array Keyed) (ia ib : Nat) : Prop where
  pm : (out.toList ++ (a.toList.drop ia ++ b.toList.drop ib)).Perm (a.toList ++ b.toList)
  so : Up rk out.toList
  ca : ∀ o ∈ out.toList, ∀ x ∈ a.toList.drop ia, rk o ≤ rk x
  cb : ∀ o ∈ out.toList, ∀ x ∈ b.toList.drop ib, rk o ≤ rk x
structure MH (rk : Keyed → Int) (a b out : Array Keyed) (na nb : Nat) : Prop where
  pm : ((a.toList.take na ++ b.toList.take nb) ++ out.toList.reverse).Perm (a.toList ++ b.toList)
  so : Up rk out.toList.reverse
  ca : ∀ o ∈ out.toList, ∀ x ∈ a.toList.take na, rk x ≤ rk o
  cb : ∀ o ∈ out.toList, ∀ x ∈ b.toList.take nb, rk x ≤ rk o
section
variable {rk : Keyed → Int} {a b out : Array Keyed} {ia ib na nb : Nat}
theorem drop_cons {xs : Array Keyed} {i : Nat} {x : Keyed} (h : xs[i]? = some x) : xs.toList.drop i = x :: xs.toList.drop (i + 1) := by
  obtain ⟨hi, e⟩ := Array.getElem?_eq_some_iff.mp h
  have hi' : i < xs.toList.length := by simpa using hi
  rw [List.drop_eq_getElem_cons hi']
  simp [e]
theorem take_snoc {xs : Array Keyed} {i : Nat} {x : Keyed} (h : xs[i]? = some x) : xs.toList.take (i + 1) = xs.toList.take i ++ [x] := by
  rw [List.take_add_one]
  simp [h]
theorem MI.start (sb : Up rk b.toList) {y : Keyed} (hy : b[0]? = some y) (hf : ∀ x ∈ a.toList, rk y ≤ rk x) : MI rk a b #[y] 0 1 := by
  have e : b.toList = y :: b.toList.drop 1 := by have := drop_cons hy; simpa using this
  refine ⟨?_, by simp [Up], fun o ho x hx => ?_, fun o ho x hx => ?_⟩
  · show ([y] ++ (a.toList.drop 0 ++ b.toList.drop 1)).Perm _
    rw [List.drop_zero]
    conv => rhs; rw [e]
    exact (List.perm_middle (l₁ := a.toList) (a := y)).symm
  · have ho : o = y := by simpa using ho
    rw [ho]; exact hf x (by simpa using hx)
  · have ho : o = y := by simpa using ho
    rw [ho]
    rw [e] at sb
    exact (List.pairwise_cons.mp sb).1 x hx
theorem MI.pushA (M : MI rk a b out ia ib) (sa : Up rk a.toList) {x : Keyed} (hx : a[ia]? = some x) (hc : ∀ y ∈ b.toList.drop ib, rk x ≤ rk y) : MI rk a b (out.push x) (ia + 1) ib := by
  have e := drop_cons hx
  have sd : Up rk (a.toList.drop ia) := List.Pairwise.sublist (List.drop_sublist _ _) sa
  rw [e] at sd
  have p := M.pm
  rw [e] at p
  refine ⟨?_, ?_, fun o ho z hz => ?_, fun o ho z hz => ?_⟩
  · rw [Array.toList_push, List.append_assoc]
    exact p
  · rw [Array.toList_push]
    refine List.pairwise_append.mpr ⟨M.so, by simp, fun o ho z hz => ?_⟩
    have hz : z = x := by simpa using hz
    rw [hz]; exact M.ca o ho x (by rw [e]; exact List.mem_cons_self)
  · rw [Array.toList_push] at ho
    rcases List.mem_append.mp ho with ho | ho
    · exact M.ca o ho z (by rw [e]; exact List.mem_cons_of_mem _ hz)
    · have ho : o = x := by simpa using ho
      rw [ho]; exact (List.pairwise_cons.mp sd).1 z hz
  · rw [Array.toList_push] at ho
    rcases List.mem_append.mp ho with ho | ho
    · exact M.cb o ho z hz
    · have ho : o = x := by simpa using ho
      rw [ho]; exact hc z hz
theorem MI.pushB (M : MI rk a b out ia ib) (sb : Up rk b.toList) {x : Keyed} (hx : b[ib]? = some x) (hc : ∀ y ∈ a.toList.drop ia, rk x ≤ rk y) : MI rk a b (out.push x) ia (ib + 1) := by
  have e := drop_cons hx
  have sd : Up rk (b.toList.drop ib) := List.Pairwise.sublist (List.drop_sublist _ _) sb
  rw [e] at sd
  have p := M.pm
  rw [e] at p
  refine ⟨?_, ?_, fun o ho z hz => ?_, fun o ho z hz => ?_⟩
  · rw [Array.toList_push, List.append_assoc]
    refine List.Perm.trans ?_ p
    exact List.Perm.append_left _ (List.perm_middle (l₁ := a.toList.drop ia) (a := x)).symm
  · rw [Array.toList_push]
    refine List.pairwise_append.mpr ⟨M.so, by simp, fun o ho z hz => ?_⟩
    have hz : z = x := by simpa using hz
    rw [hz]; exact M.cb o ho x (by rw [e]; exact List.mem_cons_self)
  · rw [Array.toList_push] at ho
    rcases List.mem_append.mp ho with ho | ho
    · exact M.ca o ho z hz
    · have ho : o = x := by simpa using ho
      rw [ho]; exact hc z hz
  · rw [Array.toList_push] at ho
    rcases List.mem_append.mp ho with ho | ho
    · exact M.cb o ho z (by rw [e]; exact List.mem_cons_of_mem _ hz)
    · have ho : o = x := by simpa using ho
      rw [ho]; exact (List.pairwise_cons.mp sd).1 z hz
theorem ext_snoc {xs : Array Keyed} {i k : Nat} {x : Keyed} (h : xs[i + k]? = some x) : out ++ xs.extract i (i + (k + 1)) = (out ++ xs.extract i (i + k)).push x := by
  obtain ⟨hi, e⟩ := Array.getElem?_eq_some_iff.mp h
  have e2 := Array.push_extract_getElem (as := xs) (i := i) (j := i + k) hi
  rw [Nat.min_eq_left (by omega)] at e2
  rw [← Nat.add_assoc, ← e2, ← e]
  simp
theorem MI.chunkA (M : MI rk a b out ia ib) (sa : Up rk a.toList) : ∀ k, ia + k ≤ a.size → (∀ i x, i < k → a[ia + i]? = some x → ∀ y ∈ b.toList.drop ib, rk x ≤ rk y) → MI rk a b (out ++ a.extract ia (ia + k)) (ia + k) ib
  | 0, _, _ => by
    have e : out ++ a.extract ia (ia + 0) = out := by simp; omega
    rw [e]; exact M
  | k + 1, h, hc => by
    have ih := MI.chunkA M sa k (by omega) fun i x hi => hc i x (by omega)
    have hx : a[ia + k]? = some a[ia + k] := Array.getElem?_eq_getElem (by omega)
    rw [ext_snoc hx]
    exact ih.pushA sa hx (hc k _ (by omega) hx)
theorem MI.chunkB (M : MI rk a b out ia ib) (sb : Up rk b.toList) : ∀ k, ib + k ≤ b.size → (∀ i x, i < k → b[ib + i]? = some x → ∀ y ∈ a.toList.drop ia, rk x ≤ rk y) → MI rk a b (out ++ b.extract ib (ib + k)) ia (ib + k)
  | 0, _, _ => by
    have e : out ++ b.extract ib (ib + 0) = out := by simp; omega
    rw [e]; exact M
  | k + 1, h, hc => by
    have ih := MI.chunkB M sb k (by omega) fun i x hi => hc i x (by omega)
    have hx : b[ib + k]? = some b[ib + k] := Array.getElem?_eq_getElem (by omega)
    rw [ext_snoc hx]
    exact ih.pushB sb hx (hc k _ (by omega) hx)
theorem MI.fin (M : MI rk a b out ia ib) {r : Array Keyed} {P : List Keyed} (e : r.toList = out.toList ++ P) (hp : P.Perm (a.toList.drop ia ++ b.toList.drop ib)) (hs : Up rk P) : Done rk a b r := by
  refine ⟨?_, ?_⟩
  · rw [e]; exact (List.Perm.append_left _ hp).trans M.pm
  · rw [e]
    refine List.pairwise_append.mpr ⟨M.so, hs, fun o ho x hx => ?_⟩
    rcases List.mem_append.mp (hp.mem_iff.mp hx) with hx | hx
    · exact M.ca o ho x hx
    · exact M.cb o ho x hx
theorem ext_toList (xs : Array Keyed) (i : Nat) : (xs.extract i).toList = xs.toList.drop i := by
  rw [Array.toList_extract, List.extract_eq_take_drop, List.take_of_length_le (by simp)]
theorem MI.finB (M : MI rk a b out ia ib) (sa : Up rk a.toList) (h : ib = b.size) : Done rk a b (out ++ a.extract ia ++ b.extract ib) := by
  have e : b.toList.drop ib = [] := by rw [List.drop_eq_nil_iff]; simp [h]
  refine M.fin (P := a.toList.drop ia ++ b.toList.drop ib) ?_ (List.Perm.refl _) ?_
  · rw [Array.toList_append, Array.toList_append, ext_toList, ext_toList, List.append_assoc]
  · rw [e, List.append_nil]; exact List.Pairwise.sublist (List.drop_sublist _ _) sa
theorem MI.finA (M : MI rk a b out ia ib) (sb : Up rk b.toList) (h : ia = a.size) : Done rk a b (out ++ a.extract ia ++ b.extract ib) := by
  have e : a.toList.drop ia = [] := by rw [List.drop_eq_nil_iff]; simp [h]
  refine M.fin (P := a.toList.drop ia ++ b.toList.drop ib) ?_ (List.Perm.refl _) ?_
  · rw [Array.toList_append, Array.toList_append, ext_toList, ext_toList, List.append_assoc]
  · rw [e, List.nil_append]; exact List.Pairwise.sublist (List.drop_sublist _ _) sb
theorem MI.finL (M : MI rk a b out ia ib) (sb : Up rk b.toList) (h : ia + 1 = a.size) (hl : ∀ x, a[a.size - 1]? = some x → ∀ y ∈ b.toList, rk y ≤ rk x) : Done rk a b (out ++ b.extract ib ++ a.extract ia) := by
  have hx : a[ia]? = some a[ia] := Array.getElem?_eq_getElem (by omega)
  have e : a.toList.drop ia = [a[ia]] := by
    rw [drop_cons hx]
    have : a.toList.drop (ia + 1) = [] := by rw [List.drop_eq_nil_iff]; simp [h]
    rw [this]
  refine M.fin (P := b.toList.drop ib ++ a.toList.drop ia) ?_ List.perm_append_comm ?_
  · rw [Array.toList_append, Array.toList_append, ext_toList, ext_toList, List.append_assoc]
  · rw [e]
    refine List.pairwise_append.mpr ⟨List.Pairwise.sublist (List.drop_sublist _ _) sb, by simp, fun o ho z hz => ?_⟩
    have hz : z = a[ia] := by simpa using hz
    rw [hz]
    refine hl _ ?_ o (List.mem_of_mem_drop ho)
    have : a.size - 1 = ia := by omega
    rw [this]; exact hx
theorem MH.start (sa : Up rk a.toList) {x : Keyed} (h1 : 1 ≤ a.size) (hx : a[a.size - 1]? = some x) (hl : ∀ y ∈ b.toList, rk y ≤ rk x) : MH rk a b #[x] (a.size - 1) b.size := by
  have e : a.toList = a.toList.take (a.size - 1) ++ [x] := by
    have := take_snoc hx
    rw [← this, List.take_of_length_le (by simp; omega)]
  have eb : b.toList.take b.size = b.toList := List.take_of_length_le (by simp)
  refine ⟨?_, by simp [Up], fun o ho z hz => ?_, fun o ho z hz => ?_⟩
  · show ((a.toList.take (a.size - 1) ++ b.toList.take b.size) ++ [x]).Perm _
    rw [eb]
    conv => rhs; rw [e]
    rw [List.append_assoc, List.append_assoc]
    exact List.Perm.append_left _ List.perm_append_comm
  · have ho : o = x := by simpa using ho
    rw [ho]
    rw [e] at sa
    exact (List.pairwise_append.mp sa).2.2 z hz x (by simp)
  · have ho : o = x := by simpa using ho
    rw [ho]; exact hl z (List.mem_of_mem_take hz)
theorem MH.pushA (M : MH rk a b out (na + 1) nb) (sa : Up rk a.toList) {x : Keyed} (hx : a[na]? = some x) (hc : ∀ y ∈ b.toList.take nb, rk y ≤ rk x) : MH rk a b (out.push x) na nb := by
  have e := take_snoc hx
  have sd : Up rk (a.toList.take (na + 1)) := List.Pairwise.sublist (List.take_sublist _ _) sa
  rw [e] at sd
  have p := M.pm
  rw [e] at p
  refine ⟨?_, ?_, fun o ho z hz => ?_, fun o ho z hz => ?_⟩
  · rw [Array.toList_push, List.reverse_append]
    refine List.Perm.trans ?_ p
    show (_ ++ ([x] ++ out.toList.reverse)).Perm _
    rw [← List.append_assoc]
    refine List.Perm.append_right _ ?_
    rw [List.append_assoc, List.append_assoc]
    exact List.Perm.append_left _ List.perm_append_comm
  · rw [Array.toList_push, List.reverse_append]
    show Up rk ([x] ++ out.toList.reverse)
    refine List.pairwise_append.mpr ⟨by simp, M.so, fun z hz o ho => ?_⟩
    have hz : z = x := by simpa using hz
    rw [hz]; exact M.ca o (List.mem_reverse.mp ho) x (by rw [e]; simp)
  · rw [Array.toList_push] at ho
    rcases List.mem_append.mp ho with ho | ho
    · exact M.ca o ho z (by rw [e]; exact List.mem_append_left _ hz)
    · have ho : o = x := by simpa using ho
      rw [ho]; exact (List.pairwise_append.mp sd).2.2 z hz x (by simp)
  · rw [Array.toList_push] at ho
    rcases List.mem_append.mp ho with ho | ho
    · exact M.cb o ho z hz
    · have ho : o = x := by simpa using ho
      rw [ho]; exact hc z hz
theorem MH.pushB (M : MH rk a b out na (nb + 1)) (sb : Up rk b.toList) {x : Keyed} (hx : b[nb]? = some x) (hc : ∀ y ∈ a.toList.take na, rk y ≤ rk x) : MH rk a b (out.push x) na nb := by
  have e := take_snoc hx
  have sd : Up rk (b.toList.take (nb + 1)) := List.Pairwise.sublist (List.take_sublist _ _) sb
  rw [e] at sd
  have p := M.pm
  rw [e] at p
  refine ⟨?_, ?_, fun o ho z hz => ?_, fun o ho z hz => ?_⟩
  · rw [Array.toList_push, List.reverse_append]
    refine List.Perm.trans ?_ p
    show (_ ++ ([x] ++ out.toList.reverse)).Perm _
    rw [← List.append_assoc, List.append_assoc (a.toList.take na)]
  · rw [Array.toList_push, List.reverse_append]
    show Up rk ([x] ++ out.toList.reverse)
    refine List.pairwise_append.mpr ⟨by simp, M.so, fun z hz o ho => ?_⟩
    have hz : z = x := by simpa using hz
    rw [hz]; exact M.cb o (List.mem_reverse.mp ho) x (by rw [e]; simp)
  · rw [Array.toList_push] at ho
    rcases List.mem_append.mp ho with ho | ho
    · exact M.ca o ho z hz
    · have ho : o = x := by simpa using ho
      rw [ho]; exact hc z hz
  · rw [Array.toList_push] at ho
    rcases List.mem_append.mp ho with ho | ho
    · exact M.cb o ho z (by rw [e]; exact List.mem_append_left _ hz)
    · have ho : o = x := by simpa using ho
      rw [ho]; exact (List.pairwise_append.mp sd).2.2 z hz x (by simp)
theorem rev_snoc {xs : Array Keyed} {i n : Nat} {x : Keyed} (hi : i < n) (h : xs[i]? = some x) : out ++ (xs.extract i n).reverse = (out ++ (xs.extract (i + 1) n).reverse).push x := by
  obtain ⟨hs, e⟩ := Array.getElem?_eq_some_iff.mp h
  apply Array.toList_inj.mp
  have e2 : (xs.extract i n).toList = x :: (xs.extract (i + 1) n).toList := by
    rw [Array.toList_extract, Array.toList_extract, List.extract_eq_take_drop, List.extract_eq_take_drop, drop_cons h]
    obtain ⟨m, hm⟩ : ∃ m, n - i = m + 1 := ⟨n - i - 1, by omega⟩
    have hm2 : n - (i + 1) = m := by omega
    rw [hm, hm2, List.take_succ_cons]
  rw [Array.toList_append, Array.toList_push, Array.toList_append, Array.toList_reverse, Array.toList_reverse, e2, List.reverse_cons, List.append_assoc]
theorem MH.chunkA (M : MH rk a b out na nb) (sa : Up rk a.toList) (h : na ≤ a.size) : ∀ k, k ≤ na → (∀ i x, na - k ≤ i → i < na → a[i]? = some x → ∀ y ∈ b.toList.take nb, rk y ≤ rk x) → MH rk a b (out ++ (a.extract (na - k) na).reverse) (na - k) nb
  | 0, _, _ => by
    have e : out ++ (a.extract (na - 0) na).reverse = out := by simp; omega
    rw [e]; exact M
  | k + 1, hk, hc => by
    have ih := MH.chunkA M sa h k (by omega) fun i x hi => hc i x (by omega)
    have hx : a[na - (k + 1)]? = some a[na - (k + 1)] := Array.getElem?_eq_getElem (by omega)
    rw [rev_snoc (by omega) hx]
    have e : na - (k + 1) + 1 = na - k := by omega
    rw [e]
    rw [← e] at ih
    have := ih.pushA sa hx (hc _ _ (Nat.le_refl _) (by omega) hx)
    rw [e] at this
    exact this
theorem MH.chunkB (M : MH rk a b out na nb) (sb : Up rk b.toList) (h : nb ≤ b.size) : ∀ k, k ≤ nb → (∀ i x, nb - k ≤ i → i < nb → b[i]? = some x → ∀ y ∈ a.toList.take na, rk y ≤ rk x) → MH rk a b (out ++ (b.extract (nb - k) nb).reverse) na (nb - k)
  | 0, _, _ => by
    have e : out ++ (b.extract (nb - 0) nb).reverse = out := by simp; omega
    rw [e]; exact M
  | k + 1, hk, hc => by
    have ih := MH.chunkB M sb h k (by omega) fun i x hi => hc i x (by omega)
    have hx : b[nb - (k + 1)]? = some b[nb - (k + 1)] := Array.getElem?_eq_getElem (by omega)
    rw [rev_snoc (by omega) hx]
    have e : nb - (k + 1) + 1 = nb - k := by omega
    rw [e]
    rw [← e] at ih
    have := ih.pushB sb hx (hc _ _ (Nat.le_refl _) (by omega) hx)
    rw [e] at this
    exact this
theorem MH.fin (M : MH rk a b out na nb) {r : Array Keyed} {P : List Keyed} (e : r.toList = P ++ out.toList.reverse) (hp : P.Perm (a.toList.take na ++ b.toList.take nb)) (hs : Up rk P) : Done rk a b r := by
  refine ⟨?_, ?_⟩
  · rw [e]; exact (List.Perm.append_right _ hp).trans M.pm
  · rw [e]
    refine List.pairwise_append.mpr ⟨hs, M.so, fun x hx o ho => ?_⟩
    rcases List.mem_append.mp (hp.mem_iff.mp hx) with hx | hx
    · exact M.ca o (List.mem_reverse.mp ho) x hx
    · exact M.cb o (List.mem_reverse.mp ho) x hx
theorem ext0_toList (xs : Array Keyed) (i : Nat) : (xs.extract 0 i).toList = xs.toList.take i := by
  rw [Array.toList_extract, List.extract_eq_take_drop, List.drop_zero]; rfl
theorem MH.finA (M : MH rk a b out na nb) (sb : Up rk b.toList) (h : na = 0) : Done rk a b (a.extract 0 na ++ b.extract 0 nb ++ out.reverse) := by
  refine M.fin (P := a.toList.take na ++ b.toList.take nb) ?_ (List.Perm.refl _) ?_
  · rw [Array.toList_append, Array.toList_append, ext0_toList, ext0_toList, Array.toList_reverse]
  · rw [h, List.take_zero, List.nil_append]; exact List.Pairwise.sublist (List.take_sublist _ _) sb
theorem MH.finB (M : MH rk a b out na nb) (sa : Up rk a.toList) (h : nb = 0) : Done rk a b (a.extract 0 na ++ b.extract 0 nb ++ out.reverse) := by
  refine M.fin (P := a.toList.take na ++ b.toList.take nb) ?_ (List.Perm.refl _) ?_
  · rw [Array.toList_append, Array.toList_append, ext0_toList, ext0_toList, Array.toList_reverse]
  · rw [h, List.take_zero, List.append_nil]; exact List.Pairwise.sublist (List.take_sublist _ _) sa
theorem MH.finF (M : MH rk a b out na nb) (sa : Up rk a.toList) (h : nb = 1) (hf : ∀ y, b[0]? = some y → ∀ x ∈ a.toList, rk y ≤ rk x) : Done rk a b (b.extract 0 nb ++ a.extract 0 na ++ out.reverse) := by
  refine M.fin (P := b.toList.take nb ++ a.toList.take na) ?_ List.perm_append_comm ?_
  · rw [Array.toList_append, Array.toList_append, ext0_toList, ext0_toList, Array.toList_reverse]
  · rw [h]
    cases eb : b[0]? with
    | none =>
      have : b.toList = [] := by
        rw [Array.getElem?_eq_none_iff] at eb
        exact List.eq_nil_of_length_eq_zero (by simpa using eb)
      rw [this]
      exact List.Pairwise.sublist (List.take_sublist _ _) sa
    | some y =>
      have e := take_snoc eb
      rw [show (0 : Nat) + 1 = 1 from rfl, List.take_zero, List.nil_append] at e
      rw [e]
      refine List.pairwise_append.mpr ⟨by simp, List.Pairwise.sublist (List.take_sublist _ _) sa, fun o ho z hz => ?_⟩
      have ho : o = y := by simpa using ho
      rw [ho]; exact hf y eb z (List.mem_of_mem_take hz)
end
end TS
namespace TS
open PySem PyProof.Rows
structure Keep (st st' : SortSt) : Prop where
  k : kindOf st' = kindOf st
  a : arrOf st' = arrOf st
  p : pendingOf st' = pendingOf st
  f : failedOf st' = failedOf st
theorem Keep.refl {st : SortSt} : Keep st st := ⟨rfl, rfl, rfl, rfl⟩
theorem Keep.trans {a b c : SortSt} (h : Keep a b) (h' : Keep b c) : Keep a c := ⟨h'.k.trans h.k, h'.a.trans h.a, h'.p.trans h.p, h'.f.trans h.f⟩
end TS
namespace TS
open PySem PyProof.Rows
abbrev S7 := Option (Array Keyed) × Array Keyed × Nat × Nat × Nat × Nat × Nat
def loC (a b : Array Keyed) (m k k2 : Nat) (out : Array Keyed) (ia ib : Nat) : StateT SortSt Sem (ForInStep S7) := do
  let x ← elem' a ia
  if (ia + 1 + 1 == a.size) = true then pure (.done (some (out.push x ++ b.extract ib ++ a.extract (ia + 1)), out.push x, ia + 1, ib, m, k, k2))
  else if (decide (k < 7) && decide (k2 < 7)) = true then pure (.done (none, out.push x, ia + 1, ib, m, k, k2))
  else pure (.yield (none, out.push x, ia + 1, ib, m, k, k2))
def loB (a b : Array Keyed) (m k bc : Nat) (out : Array Keyed) (ia ib : Nat) : StateT SortSt Sem (ForInStep S7) := do
  let y ← elem' b ib
  if (ib + 1 == b.size) = true then pure (.done (some (out.push y ++ a.extract ia ++ b.extract (ib + 1)), out.push y, ia, ib + 1, m, k, bc))
  else do
    let x ← elem' a ia
    let some k2 ← gallop' true x b (ib + 1) (b.size - (ib + 1)) 0 | pure (.done (some (out.push y ++ a.extract ia ++ b.extract (ib + 1)), out.push y, ia, ib + 1, m, k, bc))
    if k2 > 0 then
      if (ib + 1 + k2 == b.size) = true then pure (.done (some (out.push y ++ b.extract (ib + 1) (ib + 1 + k2) ++ a.extract ia ++ b.extract (ib + 1 + k2)), out.push y ++ b.extract (ib + 1) (ib + 1 + k2), ia, ib + 1 + k2, m, k, k2))
      else loC a b m k k2 (out.push y ++ b.extract (ib + 1) (ib + 1 + k2)) ia (ib + 1 + k2)
    else loC a b m k k2 (out.push y) ia (ib + 1)
def loA (a b : Array Keyed) (ac bc : Nat) (out : Array Keyed) (ia ib m : Nat) : StateT SortSt Sem (ForInStep S7) := do
  setMin' m
  let y ← elem' b ib
  let some k ← gallop' false y a ia (a.size - ia) 0 | pure (.done (some (out ++ a.extract ia ++ b.extract ib), out, ia, ib, m, ac, bc))
  if k > 0 then
    if (ia + k + 1 == a.size) = true then pure (.done (some (out ++ a.extract ia (ia + k) ++ b.extract ib ++ a.extract (ia + k)), out ++ a.extract ia (ia + k), ia + k, ib, m, k, bc))
    else if (ia + k == a.size) = true then pure (.done (some (out ++ a.extract ia (ia + k) ++ a.extract (ia + k) ++ b.extract ib), out ++ a.extract ia (ia + k), ia + k, ib, m, k, bc))
    else loB a b m k bc (out ++ a.extract ia (ia + k)) (ia + k) ib
  else loB a b m k bc out ia ib
theorem mergeLo'_eq (a b : Array Keyed) : mergeLo' a b = (do
  rule "list.sort.merge-lo"
  let all := a.size + b.size
  let dn (acc : Array Keyed) (i j : Nat) := acc ++ a.extract i a.size ++ b.extract j b.size
  let la (acc : Array Keyed) (i j : Nat) := acc ++ b.extract j b.size ++ a.extract i a.size
  let mut acc : Array Keyed := #[← elem' b 0]
  let mut i := 0
  let mut j := 1
  if j == b.size then return dn acc i j
  if i + 1 == a.size then return la acc i j
  let mut g := gallopOf (← get)
  for _ in [0:all] do
    let mut p := 0
    let mut q := 0
    for _ in [0:all] do
      let some win ← lt' (← elem' b j) (← elem' a i) | return dn acc i j
      if win then
        acc := acc.push (← elem' b j); j := j + 1; q := q + 1; p := 0
        if j == b.size then return dn acc i j
        if q ≥ g then break
      else
        acc := acc.push (← elem' a i); i := i + 1; p := p + 1; q := 0
        if i + 1 == a.size then return la acc i j
        if p ≥ g then break
    rule "list.sort.gallop"
    g := g + 1
    for _ in [0:all] do
      if g > 1 then g := g - 1
      setMin' g
      let some k ← gallop' false (← elem' b j) a i (a.size - i) 0 | return dn acc i j
      p := k
      if k > 0 then
        acc := acc ++ a.extract i (i + k); i := i + k
        if i + 1 == a.size then return la acc i j
        if i == a.size then return dn acc i j
      acc := acc.push (← elem' b j); j := j + 1
      if j == b.size then return dn acc i j
      let some k ← gallop' true (← elem' a i) b j (b.size - j) 0 | return dn acc i j
      q := k
      if k > 0 then
        acc := acc ++ b.extract j (j + k); j := j + k
        if j == b.size then return dn acc i j
      acc := acc.push (← elem' a i); i := i + 1
      if i + 1 == a.size then return la acc i j
      if p < 7 && q < 7 then break
    g := g + 1
    setMin' g
  unsupported "internal:list.sort.merge-bound") := rfl
section
variable {prog : Program} {w : World} {A : Around} {E : Value → Shared → Prop} {s : Shared} {κ : SortKind} {rk : Keyed → Int} {D : Keyed → Prop}
theorem setMin_ok {g : Nat} {st : SortSt} {Q : Unit → SortSt → Prop} (h : ∀ st', Keep st st' → Q () st') : wpS (model prog w) A E s (setMin' g) Q st := by
  rw [show setMin' g = modify fun s => SortSt.mk' (kindOf s) (arrOf s) (pendingOf s) g (failedOf s) from rfl]
  exact wpS_modify (h _ ⟨rfl, rfl, rfl, rfl⟩)
theorem up_first {rk : Keyed → Int} {xs : Array Keyed} (su : Up rk xs.toList) {i : Nat} {x : Keyed} (h : xs[i]? = some x) : ∀ y ∈ xs.toList.drop i, rk x ≤ rk y := fun y hy => by
  have sd : Up rk (xs.toList.drop i) := List.Pairwise.sublist (List.drop_sublist _ _) su
  rw [drop_cons h] at sd hy
  rcases List.mem_cons.mp hy with e | hy
  · rw [e]; exact Int.le_refl _
  · exact (List.pairwise_cons.mp sd).1 y hy
theorem up_last {rk : Keyed → Int} {xs : Array Keyed} (su : Up rk xs.toList) {i : Nat} {x : Keyed} (h : xs[i]? = some x) : ∀ y ∈ xs.toList.take (i + 1), rk y ≤ rk x := fun y hy => by
  have sd : Up rk (xs.toList.take (i + 1)) := List.Pairwise.sublist (List.take_sublist _ _) su
  rw [take_snoc h] at sd hy
  rcases List.mem_append.mp hy with hy | e
  · exact (List.pairwise_append.mp sd).2.2 y hy x (by simp)
  · have e : y = x := by simpa using e
    rw [e]; exact Int.le_refl _
theorem up_at {rk : Keyed → Int} {xs : Array Keyed} (su : Up rk xs.toList) {i j : Nat} {x y : Keyed} (hx : xs[i]? = some x) (hy : xs[j]? = some y) (hij : i ≤ j) : rk x ≤ rk y := by
  refine up_first su hx y ?_
  have e : (xs.toList.drop i)[j - i]? = some y := by
    rw [List.getElem?_drop, Nat.add_sub_cancel' hij]; simpa using hy
  exact List.mem_of_getElem? e
theorem gallopR_ok (C : Cmp prog w A s κ rk D) {st : SortSt} (hk : kindOf st = κ) {key : Keyed} {xs : Array Keyed} {bs n hint : Nat} (dk : D key) (hD : ∀ i, i < n → ∃ x, xs[bs + i]? = some x ∧ D x) (su : ∀ i j x y, i ≤ j → j < n → xs[bs + i]? = some x → xs[bs + j]? = some y → rk x ≤ rk y) (hh : hint < n)
    {Q : Option Nat → SortSt → Prop} (h : ∀ k, k ≤ n → (∀ i x, i < k → xs[bs + i]? = some x → rk x ≤ rk key) → (∀ i x, k ≤ i → i < n → xs[bs + i]? = some x → rk key < rk x) → Q (some k) st) : wpS (model prog w) A E s (gallop' false key xs bs n hint) Q st := by
  refine gallop_ok C hk dk hD (f := fun i => match xs[bs + i]? with | some x => decide (rk x ≤ rk key) | none => false) (fun i x hi hx => ?_) (fun i j hij hj h1 => ?_) hh fun k hk' a1 a2 => h k hk' (fun i x hi hx => ?_) (fun i x hi hin hx => ?_)
  · simp only [hx]; rfl
  · obtain ⟨x, hx, _⟩ := hD i (by omega)
    obtain ⟨y, hy, _⟩ := hD j hj
    simp only [hx, hy, decide_eq_true_eq] at h1 ⊢
    have := su i j x y hij hj hx hy
    omega
  · have := a1 i hi
    simp only [hx, decide_eq_true_eq] at this
    exact this
  · have := a2 i hi hin
    simp only [hx, decide_eq_false_iff_not] at this
    omega
theorem gallopL_ok (C : Cmp prog w A s κ rk D) {st : SortSt} (hk : kindOf st = κ) {key : Keyed} {xs : Array Keyed} {bs n hint : Nat} (dk : D key) (hD : ∀ i, i < n → ∃ x, xs[bs + i]? = some x ∧ D x) (su : ∀ i j x y, i ≤ j → j < n → xs[bs + i]? = some x → xs[bs + j]? = some y → rk x ≤ rk y) (hh : hint < n)
    {Q : Option Nat → SortSt → Prop} (h : ∀ k, k ≤ n → (∀ i x, i < k → xs[bs + i]? = some x → rk x < rk key) → (∀ i x, k ≤ i → i < n → xs[bs + i]? = some x → rk key ≤ rk x) → Q (some k) st) : wpS (model prog w) A E s (gallop' true key xs bs n hint) Q st := by
  refine gallop_ok C hk dk hD (f := fun i => match xs[bs + i]? with | some x => decide (rk x < rk key) | none => false) (fun i x hi hx => ?_) (fun i j hij hj h1 => ?_) hh fun k hk' a1 a2 => h k hk' (fun i x hi hx => ?_) (fun i x hi hin hx => ?_)
  · simp only [hx]; rfl
  · obtain ⟨x, hx, _⟩ := hD i (by omega)
    obtain ⟨y, hy, _⟩ := hD j hj
    simp only [hx, hy, decide_eq_true_eq] at h1 ⊢
    have := su i j x y hij hj hx hy
    omega
  · have := a1 i hi
    simp only [hx, decide_eq_true_eq] at this
    exact this
  · have := a2 i hi hin
    simp only [hx, decide_eq_false_iff_not] at this
    omega
def LoR (rk : Keyed → Int) (a b : Array Keyed) (n : Nat) (st : SortSt) (r : ForInStep S7) (st' : SortSt) : Prop := match r with
  | .done c => Keep st st' ∧ ((∃ r, c.1 = some r ∧ Done rk a b r) ∨ ∃ out ia ib mg ac bc, c = (none, out, ia, ib, mg, ac, bc) ∧ MI rk a b out ia ib ∧ ia + 1 < a.size ∧ ib < b.size ∧ n ≤ ia + ib)
  | .yield c => ∃ out ia ib mg ac bc, c = (none, out, ia, ib, mg, ac, bc) ∧ MI rk a b out ia ib ∧ ia + 1 < a.size ∧ ib < b.size ∧ n ≤ ia + ib ∧ Keep st st'
theorem loC_ok {a b : Array Keyed} (da : ∀ x ∈ a.toList, D x) (sa : Up rk a.toList) (sb : Up rk b.toList) (hl : ∀ x, a[a.size - 1]? = some x → ∀ y ∈ b.toList, rk y ≤ rk x) {m k k2 n ia ib : Nat} {out : Array Keyed} {st st' : SortSt} (M : MI rk a b out ia ib) (g1 : ia + 1 < a.size) (g2 : ib < b.size) (g3 : n ≤ ia + ib) (kp : Keep st st')
    {x : Keyed} (hx : a[ia]? = some x) (hc : ∀ y, b[ib]? = some y → rk x ≤ rk y) : wpS (model prog w) A E s (loC a b m k k2 out ia ib) (LoR rk a b n st) st' := by
  unfold loC
  refine wpS_bind (elem_ok hx ?_)
  have hb : b[ib]? = some b[ib] := Array.getElem?_eq_getElem g2
  have M := M.pushA sa hx (fun y hy => by have := up_first sb hb y hy; have := hc _ hb; omega)
  by_cases c2 : ia + 1 + 1 = a.size
  · rw [if_pos (beq_iff_eq.mpr c2)]; exact wpS_pure ⟨kp, .inl ⟨_, rfl, M.finL sb c2 hl⟩⟩
  rw [if_neg (fun z => c2 (beq_iff_eq.mp z))]
  by_cases c3 : (decide (k < 7) && decide (k2 < 7)) = true
  · rw [if_pos c3]; exact wpS_pure ⟨kp, .inr ⟨_, _, _, _, _, _, rfl, M, by omega, g2, by omega⟩⟩
  · rw [if_neg c3]; exact wpS_pure ⟨_, _, _, _, _, _, rfl, M, by omega, g2, by omega, kp⟩
theorem loB_ok (C : Cmp prog w A s κ rk D) {a b : Array Keyed} (da : ∀ x ∈ a.toList, D x) (db : ∀ x ∈ b.toList, D x) (sa : Up rk a.toList) (sb : Up rk b.toList) (hl : ∀ x, a[a.size - 1]? = some x → ∀ y ∈ b.toList, rk y ≤ rk x) {m k bc n ia ib : Nat} {out : Array Keyed} {st st' : SortSt} (hk : kindOf st = κ) (M : MI rk a b out ia ib) (g1 : ia + 1 < a.size) (g2 : ib < b.size) (g3 : n ≤ ia + ib) (kp : Keep st st')
    {y : Keyed} (hy : b[ib]? = some y) (hc : ∀ x, a[ia]? = some x → rk y < rk x) : wpS (model prog w) A E s (loB a b m k bc out ia ib) (LoR rk a b n st) st' := by
  unfold loB
  have gb : ∀ i, i < b.size → ∃ x, b[i]? = some x ∧ D x := fun i hi => ⟨b[i], Array.getElem?_eq_getElem hi, db _ (by simp)⟩
  have hxa : a[ia]? = some a[ia] := Array.getElem?_eq_getElem (by omega)
  have dxa : D a[ia] := da _ (by simp)
  have hlt := hc _ hxa
  generalize a[ia] = xa at hxa dxa hlt
  refine wpS_bind (elem_ok hy ?_)
  have M := M.pushB sb hy (fun z hz => by have := up_first sa hxa z hz; omega)
  by_cases c1 : ib + 1 = b.size
  · rw [if_pos (beq_iff_eq.mpr c1)]; exact wpS_pure ⟨kp, .inl ⟨_, rfl, M.finB sa c1⟩⟩
  rw [if_neg (fun z => c1 (beq_iff_eq.mp z))]
  refine wpS_bind (elem_ok hxa ?_)
  refine wpS_bind (gallopL_ok C (kp.k.trans hk) dxa (fun i hi => gb (ib + 1 + i) (by omega)) (fun i j x y hij hj hx hy => up_at sb hx hy (by omega)) (by omega) fun k2 hk2 b1 b2 => ?_)
  have M2 := M.chunkB sb k2 (by omega) fun i x hi hx y hy => by have := b1 i x hi hx; have := up_first sa hxa y hy; omega
  dsimp only
  have nx : ∀ y, b[ib + 1 + k2]? = some y → ib + 1 + k2 < b.size → rk xa ≤ rk y := fun y hy hlt => b2 k2 y (Nat.le_refl _) (by omega) hy
  by_cases c : k2 > 0
  · rw [if_pos c]
    by_cases c1 : ib + 1 + k2 = b.size
    · rw [if_pos (beq_iff_eq.mpr c1)]; exact wpS_pure ⟨kp, .inl ⟨_, rfl, M2.finB sa c1⟩⟩
    rw [if_neg (fun z => c1 (beq_iff_eq.mp z))]
    exact loC_ok da sa sb hl M2 g1 (by omega) (by omega) kp hxa fun y hy => nx y hy (by omega)
  · rw [if_neg c]
    have e : k2 = 0 := by omega
    subst e
    exact loC_ok da sa sb hl M g1 (by omega) (by omega) kp hxa fun y hy => nx y hy (by omega)
theorem loA_ok (C : Cmp prog w A s κ rk D) {a b : Array Keyed} (da : ∀ x ∈ a.toList, D x) (db : ∀ x ∈ b.toList, D x) (sa : Up rk a.toList) (sb : Up rk b.toList) (hl : ∀ x, a[a.size - 1]? = some x → ∀ y ∈ b.toList, rk y ≤ rk x) {m ac bc n ia ib : Nat} {out : Array Keyed} {st st' : SortSt} (hk : kindOf st = κ) (M : MI rk a b out ia ib) (g1 : ia + 1 < a.size) (g2 : ib < b.size) (g3 : n ≤ ia + ib) (kp : Keep st st') :
    wpS (model prog w) A E s (loA a b ac bc out ia ib m) (LoR rk a b n st) st' := by
  unfold loA
  have ga : ∀ i, i < a.size → ∃ x, a[i]? = some x ∧ D x := fun i hi => ⟨a[i], Array.getElem?_eq_getElem hi, da _ (by simp)⟩
  refine wpS_bind (setMin_ok fun st5 k5 => ?_)
  have kp := kp.trans k5
  have hxb : b[ib]? = some b[ib] := Array.getElem?_eq_getElem g2
  have dxb : D b[ib] := db _ (by simp)
  generalize b[ib] = xb at hxb dxb
  refine wpS_bind (elem_ok hxb ?_)
  refine wpS_bind (gallopR_ok C (kp.k.trans hk) dxb (fun i hi => ga (ia + i) (by omega)) (fun i j x y hij hj hx hy => up_at sa hx hy (by omega)) (by omega) fun k hk1 a1 a2 => ?_)
  have M1 := M.chunkA sa k (by omega) fun i x hi hx y hy => by have := a1 i x hi hx; have := up_first sb hxb y hy; omega
  dsimp only
  by_cases c : k > 0
  · rw [if_pos c]
    by_cases c1 : ia + k + 1 = a.size
    · rw [if_pos (beq_iff_eq.mpr c1)]; exact wpS_pure ⟨kp, .inl ⟨_, rfl, M1.finL sb c1 hl⟩⟩
    rw [if_neg (fun z => c1 (beq_iff_eq.mp z))]
    by_cases c2 : ia + k = a.size
    · rw [if_pos (beq_iff_eq.mpr c2)]; exact wpS_pure ⟨kp, .inl ⟨_, rfl, M1.finA sb c2⟩⟩
    rw [if_neg (fun z => c2 (beq_iff_eq.mp z))]
    exact loB_ok C da db sa sb hl hk M1 (by omega) g2 (by omega) kp hxb fun x hx => a2 k x (Nat.le_refl _) (by omega) hx
  · rw [if_neg c]
    have e : k = 0 := by omega
    subst e
    exact loB_ok C da db sa sb hl hk M g1 g2 g3 kp hxb fun x hx => a2 0 x (Nat.le_refl _) (by omega) hx
theorem mergeLo_ok (C : Cmp prog w A s κ rk D) {st : SortSt} (hk : kindOf st = κ) {a b : Array Keyed} (da : ∀ x ∈ a.toList, D x) (db : ∀ x ∈ b.toList, D x) (sa : Up rk a.toList) (sb : Up rk b.toList) (h1 : 1 ≤ a.size) (h2 : 1 ≤ b.size)
    (hf : ∀ y, b[0]? = some y → ∀ x ∈ a.toList, rk y ≤ rk x) (hl : ∀ x, a[a.size - 1]? = some x → ∀ y ∈ b.toList, rk y ≤ rk x) {Q : Array Keyed → SortSt → Prop} (h : ∀ r st', Keep st st' → Done rk a b r → Q r st') : wpS (model prog w) A E s (mergeLo' a b) Q st := by
  have ga : ∀ i, i < a.size → ∃ x, a[i]? = some x ∧ D x := fun i hi => ⟨a[i], Array.getElem?_eq_getElem hi, da _ (by simp)⟩
  have gb : ∀ i, i < b.size → ∃ x, b[i]? = some x ∧ D x := fun i hi => ⟨b[i], Array.getElem?_eq_getElem hi, db _ (by simp)⟩
  rw [mergeLo'_eq]
  dsimp only
  refine wpS_bind (wpS_lift (wpAny_rule ⟨rfl, ?_⟩))
  obtain ⟨y0, hy0, dy0⟩ := gb 0 (by omega)
  refine wpS_bind (elem_ok hy0 ?_)
  have M0 := MI.start (a := a) sb hy0 (hf y0 hy0)
  by_cases c1 : 1 = b.size
  · rw [if_pos (beq_iff_eq.mpr c1)]; exact wpS_pure (h _ _ Keep.refl (M0.finB sa c1))
  rw [if_neg (fun z => c1 (beq_iff_eq.mp z))]
  by_cases c2 : 0 + 1 = a.size
  · rw [if_pos (beq_iff_eq.mpr c2)]; exact wpS_pure (h _ _ Keep.refl (M0.finL sb c2 hl))
  rw [if_neg (fun z => c2 (beq_iff_eq.mp z))]
  refine wpS_bind (wpS_get ?_)
  refine wpS_bind (wpS_mono (wpS_forRange (I := fun i c st' => ∃ out ia ib mg, c = (none, out, ia, ib, mg) ∧ MI rk a b out ia ib ∧ ia + 1 < a.size ∧ ib < b.size ∧ i + 1 ≤ ia + ib ∧ Keep st st')
    (Q := fun c st' => ∃ r, c.1 = some r ∧ Done rk a b r ∧ Keep st st') ?_ ?_ ⟨_, 0, 1, _, rfl, M0, by omega, by omega, by omega, Keep.refl⟩) ?_)
  rotate_left
  · rintro c st' ⟨out, ia, ib, mg, rfl, M, g1, g2, g3, kp⟩
    exfalso; omega
  · rintro c st' ⟨r, e, d, kp⟩
    obtain ⟨c1, c2⟩ := c
    have e : c1 = some r := e
    subst e
    exact wpS_pure (h r st' kp d)
  rintro i c st1 _ hi ⟨out, ia, ib, mg, rfl, M, g1, g2, g3, kp⟩
  dsimp only
  refine wpS_bind (wpS_mono (wpS_forRange (I := fun x c st' => st' = st1 ∧ ∃ out ia ib ac bc, c = (none, out, ia, ib, ac, bc) ∧ MI rk a b out ia ib ∧ ia + 1 < a.size ∧ ib < b.size ∧ i + 1 + x ≤ ia + ib)
    (Q := fun c st' => st' = st1 ∧ ((∃ r, c.1 = some r ∧ Done rk a b r) ∨ ∃ out ia ib ac bc, c = (none, out, ia, ib, ac, bc) ∧ MI rk a b out ia ib ∧ ia + 1 < a.size ∧ ib < b.size ∧ i + 2 ≤ ia + ib)) ?_ ?_ ⟨rfl, out, ia, ib, 0, 0, rfl, M, g1, g2, by omega⟩) ?_)
  · rintro x c st2 _ hx ⟨rfl, out, ia, ib, ac, bc, rfl, M, g1, g2, g3⟩
    dsimp only
    obtain ⟨xb, hxb, dxb⟩ := gb ib g2
    obtain ⟨xa, hxa, dxa⟩ := ga ia (by omega)
    refine wpS_bind (elem_ok hxb ?_)
    refine wpS_bind (elem_ok hxa ?_)
    refine wpS_bind (lt_ok C (kp.k.trans hk) dxb dxa ?_)
    dsimp only
    by_cases c : rk xb < rk xa
    · rw [if_pos (decide_eq_true c)]
      refine wpS_bind (elem_ok hxb ?_)
      have M' := M.pushB sb hxb (fun y hy => by have := up_first sa hxa y hy; omega)
      by_cases c1 : ib + 1 = b.size
      · rw [if_pos (beq_iff_eq.mpr c1)]; exact wpS_pure ⟨rfl, .inl ⟨_, rfl, M'.finB sa c1⟩⟩
      rw [if_neg (fun z => c1 (beq_iff_eq.mp z))]
      by_cases c2 : bc + 1 ≥ mg
      · rw [if_pos c2]; exact wpS_pure ⟨rfl, .inr ⟨_, _, _, _, _, rfl, M', g1, by omega, by omega⟩⟩
      · rw [if_neg c2]; exact wpS_pure ⟨rfl, _, _, _, _, _, rfl, M', g1, by omega, by omega⟩
    · rw [if_neg (fun z => c (of_decide_eq_true z))]
      refine wpS_bind (elem_ok hxa ?_)
      have M' := M.pushA sa hxa (fun y hy => by have := up_first sb hxb y hy; omega)
      by_cases c1 : ia + 1 + 1 = a.size
      · rw [if_pos (beq_iff_eq.mpr c1)]; exact wpS_pure ⟨rfl, .inl ⟨_, rfl, M'.finL sb c1 hl⟩⟩
      rw [if_neg (fun z => c1 (beq_iff_eq.mp z))]
      by_cases c2 : ac + 1 ≥ mg
      · rw [if_pos c2]; exact wpS_pure ⟨rfl, .inr ⟨_, _, _, _, _, rfl, M', by omega, g2, by omega⟩⟩
      · rw [if_neg c2]; exact wpS_pure ⟨rfl, _, _, _, _, _, rfl, M', by omega, g2, by omega⟩
  · rintro c st2 ⟨rfl, out, ia, ib, ac, bc, rfl, M, g1, g2, g3⟩
    exact ⟨rfl, .inr ⟨_, _, _, _, _, rfl, M, g1, g2, by omega⟩⟩
  rintro c st2 ⟨rfl, ⟨r, e, d⟩ | ⟨out, ia, ib, ac, bc, rfl, M, g1, g2, g3⟩⟩
  · obtain ⟨c1, c2⟩ := c
    have e : c1 = some r := e
    subst e
    exact wpS_pure ⟨r, rfl, d, kp⟩
  dsimp only
  refine wpS_bind (wpS_lift (wpAny_rule ⟨rfl, ?_⟩))
  refine wpS_bind (wpS_mono (wpS_forRange (I := fun x c st' => ∃ out ia ib mg ac bc, c = (none, out, ia, ib, mg, ac, bc) ∧ MI rk a b out ia ib ∧ ia + 1 < a.size ∧ ib < b.size ∧ i + 2 ≤ ia + ib ∧ Keep st st')
    (Q := fun c st' => Keep st st' ∧ ((∃ r, c.1 = some r ∧ Done rk a b r) ∨ ∃ out ia ib mg ac bc, c = (none, out, ia, ib, mg, ac, bc) ∧ MI rk a b out ia ib ∧ ia + 1 < a.size ∧ ib < b.size ∧ i + 2 ≤ ia + ib)) ?_ ?_ ⟨out, ia, ib, _, ac, bc, rfl, M, g1, g2, g3, kp⟩) ?_)
  rotate_left
  · rintro c st3 ⟨out, ia, ib, mg, ac, bc, rfl, M, g1, g2, g3, kp⟩
    exact ⟨kp, .inr ⟨_, _, _, _, _, _, rfl, M, g1, g2, g3⟩⟩
  · rintro c st3 ⟨kp, ⟨r, e, d⟩ | ⟨out, ia, ib, mg, ac, bc, rfl, M, g1, g2, g3⟩⟩
    · obtain ⟨c1, c2⟩ := c
      have e : c1 = some r := e
      subst e
      exact wpS_pure ⟨r, rfl, d, kp⟩
    · dsimp only
      exact wpS_bind (setMin_ok fun st' k' => wpS_pure ⟨_, _, _, _, rfl, M, g1, g2, by omega, kp.trans k'⟩)
  rintro x c st3 _ hx ⟨out, ia, ib, mg, ac, bc, rfl, M, g1, g2, g3, kp⟩
  dsimp only
  by_cases cg : mg > 1
  · rw [if_pos cg]
    refine wpS_mono (show wpS _ _ _ _ (loA a b ac bc out ia ib (mg - 1)) _ _ from loA_ok (n := i + 2) C da db sa sb hl hk M g1 g2 g3 kp) fun r st' h => ?_
    cases r <;> exact h
  · rw [if_neg cg]
    refine wpS_mono (show wpS _ _ _ _ (loA a b ac bc out ia ib (mg)) _ _ from loA_ok (n := i + 2) C da db sa sb hl hk M g1 g2 g3 kp) fun r st' h => ?_
    cases r <;> exact h
end
end TS
namespace TS
open PySem PyProof.Rows
section
variable {prog : Program} {w : World} {A : Around} {E : Value → Shared → Prop} {s : Shared} {κ : SortKind} {rk : Keyed → Int} {D : Keyed → Prop}
theorem MH.pushA' {a b out : Array Keyed} {na nb : Nat} (M : MH rk a b out na nb) (sa : Up rk a.toList) (h : 1 ≤ na) {x : Keyed} (hx : a[na - 1]? = some x) (hc : ∀ y ∈ b.toList.take nb, rk y ≤ rk x) : MH rk a b (out.push x) (na - 1) nb := by
  obtain ⟨n, rfl⟩ : ∃ n, na = n + 1 := ⟨na - 1, by omega⟩
  exact M.pushA sa hx hc
theorem MH.pushB' {a b out : Array Keyed} {na nb : Nat} (M : MH rk a b out na nb) (sb : Up rk b.toList) (h : 1 ≤ nb) {x : Keyed} (hx : b[nb - 1]? = some x) (hc : ∀ y ∈ a.toList.take na, rk y ≤ rk x) : MH rk a b (out.push x) na (nb - 1) := by
  obtain ⟨n, rfl⟩ : ∃ n, nb = n + 1 := ⟨nb - 1, by omega⟩
  exact M.pushB sb hx hc
theorem up_last' {xs : Array Keyed} (su : Up rk xs.toList) {n : Nat} (h : 1 ≤ n) {x : Keyed} (hx : xs[n - 1]? = some x) : ∀ y ∈ xs.toList.take n, rk y ≤ rk x := by
  obtain ⟨m, rfl⟩ : ∃ m, n = m + 1 := ⟨n - 1, by omega⟩
  exact up_last su hx
theorem take_mem {xs : Array Keyed} {n : Nat} {y : Keyed} (h : y ∈ xs.toList.take n) : ∃ i, i < n ∧ xs[i]? = some y := by
  obtain ⟨i, hi⟩ := List.mem_iff_getElem?.mp h
  have hl := (List.getElem?_eq_some_iff.mp hi).1
  rw [List.length_take] at hl
  rw [List.getElem?_take] at hi
  rw [if_pos (by omega)] at hi
  exact ⟨i, by omega, by simpa using hi⟩
abbrev T7 := Option (Array Keyed) × Nat × Nat × Array Keyed × Nat × Nat × Nat
def hiC (a b : Array Keyed) (m p q : Nat) (na nb : Nat) (out : Array Keyed) : StateT SortSt Sem (ForInStep T7) := do
  let x ← elem' a (na - 1)
  if (na - 1 == 0) = true then pure (.done (some (a.extract 0 (na - 1) ++ b.extract 0 nb ++ (out.push x).reverse), na - 1, nb, out.push x, m, p, q))
  else if (decide (p < 7) && decide (q < 7)) = true then pure (.done (none, na - 1, nb, out.push x, m, p, q))
  else pure (.yield (none, na - 1, nb, out.push x, m, p, q))
def hiB (a b : Array Keyed) (m p bc : Nat) (na nb : Nat) (out : Array Keyed) : StateT SortSt Sem (ForInStep T7) := do
  let y ← elem' b (nb - 1)
  if (nb - 1 == 1) = true then pure (.done (some (b.extract 0 (nb - 1) ++ a.extract 0 na ++ (out.push y).reverse), na, nb - 1, out.push y, m, p, bc))
  else do
    let x ← elem' a (na - 1)
    let some t ← gallop' true x b 0 (nb - 1) (nb - 1 - 1) | pure (.done (some (a.extract 0 na ++ b.extract 0 (nb - 1) ++ (out.push y).reverse), na, nb - 1, out.push y, m, p, bc))
    if nb - 1 - t > 0 then
      if (t == 1) = true then pure (.done (some (b.extract 0 t ++ a.extract 0 na ++ (out.push y ++ (b.extract t (nb - 1)).reverse).reverse), na, t, out.push y ++ (b.extract t (nb - 1)).reverse, m, p, nb - 1 - t))
      else if (t == 0) = true then pure (.done (some (a.extract 0 na ++ b.extract 0 t ++ (out.push y ++ (b.extract t (nb - 1)).reverse).reverse), na, t, out.push y ++ (b.extract t (nb - 1)).reverse, m, p, nb - 1 - t))
      else hiC a b m p (nb - 1 - t) na t (out.push y ++ (b.extract t (nb - 1)).reverse)
    else hiC a b m p (nb - 1 - t) na (nb - 1) (out.push y)
def hiA (a b : Array Keyed) (ac bc : Nat) (na nb : Nat) (out : Array Keyed) (m : Nat) : StateT SortSt Sem (ForInStep T7) := do
  setMin' m
  let y ← elem' b (nb - 1)
  let some t ← gallop' false y a 0 na (na - 1) | pure (.done (some (a.extract 0 na ++ b.extract 0 nb ++ out.reverse), na, nb, out, m, ac, bc))
  if na - t > 0 then
    if (t == 0) = true then pure (.done (some (a.extract 0 t ++ b.extract 0 nb ++ (out ++ (a.extract t na).reverse).reverse), t, nb, out ++ (a.extract t na).reverse, m, na - t, bc))
    else hiB a b m (na - t) bc t nb (out ++ (a.extract t na).reverse)
  else hiB a b m (na - t) bc na nb out
theorem mergeHi'_eq (a b : Array Keyed) : mergeHi' a b = (do
  rule "list.sort.merge-hi"
  let all := a.size + b.size
  let dn (acc : Array Keyed) (i j : Nat) := a.extract 0 i ++ b.extract 0 j ++ acc.reverse
  let fb (acc : Array Keyed) (i j : Nat) := b.extract 0 j ++ a.extract 0 i ++ acc.reverse
  let mut i := a.size - 1
  let mut j := b.size
  let mut acc : Array Keyed := #[← elem' a i]
  if i == 0 then return dn acc i j
  if j == 1 then return fb acc i j
  let mut g := gallopOf (← get)
  for _ in [0:all] do
    let mut p := 0
    let mut q := 0
    for _ in [0:all] do
      let some win ← lt' (← elem' b (j - 1)) (← elem' a (i - 1)) | return dn acc i j
      if win then
        i := i - 1; acc := acc.push (← elem' a i); p := p + 1; q := 0
        if i == 0 then return dn acc i j
        if p ≥ g then break
      else
        j := j - 1; acc := acc.push (← elem' b j); q := q + 1; p := 0
        if j == 1 then return fb acc i j
        if q ≥ g then break
    rule "list.sort.gallop"
    g := g + 1
    for _ in [0:all] do
      if g > 1 then g := g - 1
      setMin' g
      let some t ← gallop' false (← elem' b (j - 1)) a 0 i (i - 1) | return dn acc i j
      let k := i - t
      p := k
      if k > 0 then
        acc := acc ++ (a.extract t i).reverse; i := t
        if i == 0 then return dn acc i j
      j := j - 1; acc := acc.push (← elem' b j)
      if j == 1 then return fb acc i j
      let some t ← gallop' true (← elem' a (i - 1)) b 0 j (j - 1) | return dn acc i j
      let k := j - t
      q := k
      if k > 0 then
        acc := acc ++ (b.extract t j).reverse; j := t
        if j == 1 then return fb acc i j
        if j == 0 then return dn acc i j
      i := i - 1; acc := acc.push (← elem' a i)
      if i == 0 then return dn acc i j
      if p < 7 && q < 7 then break
    g := g + 1
    setMin' g
  unsupported "internal:list.sort.merge-bound") := rfl
def HiR (rk : Keyed → Int) (a b : Array Keyed) (n : Nat) (st : SortSt) (r : ForInStep T7) (st' : SortSt) : Prop := match r with
  | .done c => Keep st st' ∧ ((∃ r, c.1 = some r ∧ Done rk a b r) ∨ ∃ na nb out mg ac bc, c = (none, na, nb, out, mg, ac, bc) ∧ MH rk a b out na nb ∧ 1 ≤ na ∧ 2 ≤ nb ∧ na ≤ a.size ∧ nb ≤ b.size ∧ n + (na + nb + 1) ≤ a.size + b.size)
  | .yield c => ∃ na nb out mg ac bc, c = (none, na, nb, out, mg, ac, bc) ∧ MH rk a b out na nb ∧ 1 ≤ na ∧ 2 ≤ nb ∧ na ≤ a.size ∧ nb ≤ b.size ∧ n + (na + nb + 1) ≤ a.size + b.size ∧ Keep st st'
theorem hiC_ok {a b : Array Keyed} (sa : Up rk a.toList) (sb : Up rk b.toList) {m p q n na nb : Nat} {out : Array Keyed} {st st' : SortSt} (M : MH rk a b out na nb) (g1 : 1 ≤ na) (g2 : 2 ≤ nb) (g4 : na ≤ a.size) (g5 : nb ≤ b.size) (g3 : n + (na + nb + 1) ≤ a.size + b.size) (kp : Keep st st')
    {x : Keyed} (hx : a[na - 1]? = some x) (hc : ∀ y ∈ b.toList.take nb, rk y ≤ rk x) : wpS (model prog w) A E s (hiC a b m p q na nb out) (HiR rk a b n st) st' := by
  unfold hiC
  refine wpS_bind (elem_ok hx ?_)
  have M := M.pushA' sa g1 hx hc
  by_cases c2 : na - 1 = 0
  · rw [if_pos (beq_iff_eq.mpr c2)]; exact wpS_pure ⟨kp, .inl ⟨_, rfl, M.finA sb c2⟩⟩
  rw [if_neg (fun z => c2 (beq_iff_eq.mp z))]
  by_cases c3 : (decide (p < 7) && decide (q < 7)) = true
  · rw [if_pos c3]; exact wpS_pure ⟨kp, .inr ⟨_, _, _, _, _, _, rfl, M, by omega, g2, by omega, g5, by omega⟩⟩
  · rw [if_neg c3]; exact wpS_pure ⟨_, _, _, _, _, _, rfl, M, by omega, g2, by omega, g5, by omega, kp⟩
theorem hiB_ok (C : Cmp prog w A s κ rk D) {a b : Array Keyed} (da : ∀ x ∈ a.toList, D x) (db : ∀ x ∈ b.toList, D x) (sa : Up rk a.toList) (sb : Up rk b.toList) (hf : ∀ y, b[0]? = some y → ∀ x ∈ a.toList, rk y ≤ rk x) {m p bc n na nb : Nat} {out : Array Keyed} {st st' : SortSt} (hk : kindOf st = κ) (M : MH rk a b out na nb) (g1 : 1 ≤ na) (g2 : 2 ≤ nb) (g4 : na ≤ a.size) (g5 : nb ≤ b.size)
    (g3 : n + (na + nb + 1) ≤ a.size + b.size) (kp : Keep st st') {y : Keyed} (hy : b[nb - 1]? = some y) (hc : ∀ x ∈ a.toList.take na, rk x ≤ rk y) : wpS (model prog w) A E s (hiB a b m p bc na nb out) (HiR rk a b n st) st' := by
  unfold hiB
  have gb : ∀ i, i < b.size → ∃ x, b[i]? = some x ∧ D x := fun i hi => ⟨b[i], Array.getElem?_eq_getElem hi, db _ (by simp)⟩
  have hxa : a[na - 1]? = some a[na - 1] := Array.getElem?_eq_getElem (by omega)
  have dxa : D a[na - 1] := da _ (by simp)
  generalize a[na - 1] = xa at hxa dxa
  refine wpS_bind (elem_ok hy ?_)
  have M := M.pushB' sb (by omega) hy hc
  by_cases c1 : nb - 1 = 1
  · rw [if_pos (beq_iff_eq.mpr c1)]; exact wpS_pure ⟨kp, .inl ⟨_, rfl, M.finF sa c1 hf⟩⟩
  rw [if_neg (fun z => c1 (beq_iff_eq.mp z))]
  refine wpS_bind (elem_ok hxa ?_)
  refine wpS_bind (gallopL_ok C (kp.k.trans hk) dxa (fun i hi => gb (0 + i) (by omega)) (fun i j x y hij hj hx hy => up_at sb hx hy (by omega)) (by omega) fun t ht b1 b2 => ?_)
  have M2 := M.chunkB sb (by omega) (nb - 1 - t) (by omega) fun i x hi hin hx y hy => by
    have := b2 i x (by omega) hin (by rw [Nat.zero_add]; exact hx)
    have := up_last' sa g1 hxa y hy
    omega
  have ek2 : nb - 1 - (nb - 1 - t) = t := by omega
  rw [ek2] at M2
  dsimp only
  have nx : ∀ y ∈ b.toList.take t, rk y ≤ rk xa := fun y hy => by
    obtain ⟨i, hi, hy⟩ := take_mem hy
    have := b1 i y hi (by rw [Nat.zero_add]; exact hy)
    omega
  by_cases c : nb - 1 - t > 0
  · rw [if_pos c]
    by_cases c1 : t = 1
    · rw [if_pos (beq_iff_eq.mpr c1)]; exact wpS_pure ⟨kp, .inl ⟨_, rfl, M2.finF sa c1 hf⟩⟩
    rw [if_neg (fun z => c1 (beq_iff_eq.mp z))]
    by_cases c3 : t = 0
    · rw [if_pos (beq_iff_eq.mpr c3)]; exact wpS_pure ⟨kp, .inl ⟨_, rfl, M2.finB sa c3⟩⟩
    rw [if_neg (fun z => c3 (beq_iff_eq.mp z))]
    exact hiC_ok sa sb M2 g1 (by omega) g4 (by omega) (by omega) kp hxa nx
  · rw [if_neg c]
    have e : t = nb - 1 := by omega
    rw [e] at nx
    exact hiC_ok sa sb M g1 (by omega) g4 (by omega) (by omega) kp hxa nx
theorem hiA_ok (C : Cmp prog w A s κ rk D) {a b : Array Keyed} (da : ∀ x ∈ a.toList, D x) (db : ∀ x ∈ b.toList, D x) (sa : Up rk a.toList) (sb : Up rk b.toList) (hf : ∀ y, b[0]? = some y → ∀ x ∈ a.toList, rk y ≤ rk x) {m ac bc n na nb : Nat} {out : Array Keyed} {st st' : SortSt} (hk : kindOf st = κ) (M : MH rk a b out na nb) (g1 : 1 ≤ na) (g2 : 2 ≤ nb) (g4 : na ≤ a.size) (g5 : nb ≤ b.size)
    (g3 : n + (na + nb + 1) ≤ a.size + b.size) (kp : Keep st st') : wpS (model prog w) A E s (hiA a b ac bc na nb out m) (HiR rk a b n st) st' := by
  unfold hiA
  have ga : ∀ i, i < a.size → ∃ x, a[i]? = some x ∧ D x := fun i hi => ⟨a[i], Array.getElem?_eq_getElem hi, da _ (by simp)⟩
  refine wpS_bind (setMin_ok fun st5 k5 => ?_)
  have kp := kp.trans k5
  have hxb : b[nb - 1]? = some b[nb - 1] := Array.getElem?_eq_getElem (by omega)
  have dxb : D b[nb - 1] := db _ (by simp)
  generalize b[nb - 1] = xb at hxb dxb
  refine wpS_bind (elem_ok hxb ?_)
  refine wpS_bind (gallopR_ok C (kp.k.trans hk) dxb (fun i hi => ga (0 + i) (by omega)) (fun i j x y hij hj hx hy => up_at sa hx hy (by omega)) (by omega) fun t ht a1 a2 => ?_)
  have M1 := M.chunkA sa g4 (na - t) (by omega) fun i x hi hin hx y hy => by
    have := a2 i x (by omega) hin (by rw [Nat.zero_add]; exact hx)
    have := up_last' sb (by omega) hxb y hy
    omega
  have ek : na - (na - t) = t := by omega
  rw [ek] at M1
  dsimp only
  have nx : ∀ x ∈ a.toList.take t, rk x ≤ rk xb := fun x hx => by
    obtain ⟨i, hi, hx⟩ := take_mem hx
    exact a1 i x hi (by rw [Nat.zero_add]; exact hx)
  by_cases c : na - t > 0
  · rw [if_pos c]
    by_cases c1 : t = 0
    · rw [if_pos (beq_iff_eq.mpr c1)]; exact wpS_pure ⟨kp, .inl ⟨_, rfl, M1.finA sb c1⟩⟩
    rw [if_neg (fun z => c1 (beq_iff_eq.mp z))]
    exact hiB_ok C da db sa sb hf hk M1 (by omega) g2 (by omega) g5 (by omega) kp hxb nx
  · rw [if_neg c]
    have e : t = na := by omega
    rw [e] at nx
    exact hiB_ok C da db sa sb hf hk M g1 g2 g4 g5 g3 kp hxb nx
theorem mergeHi_ok (C : Cmp prog w A s κ rk D) {st : SortSt} (hk : kindOf st = κ) {a b : Array Keyed} (da : ∀ x ∈ a.toList, D x) (db : ∀ x ∈ b.toList, D x) (sa : Up rk a.toList) (sb : Up rk b.toList) (h1 : 1 ≤ a.size) (h2 : 1 ≤ b.size)
    (hf : ∀ y, b[0]? = some y → ∀ x ∈ a.toList, rk y ≤ rk x) (hl : ∀ x, a[a.size - 1]? = some x → ∀ y ∈ b.toList, rk y ≤ rk x) {Q : Array Keyed → SortSt → Prop} (h : ∀ r st', Keep st st' → Done rk a b r → Q r st') : wpS (model prog w) A E s (mergeHi' a b) Q st := by
  have ga : ∀ i, i < a.size → ∃ x, a[i]? = some x ∧ D x := fun i hi => ⟨a[i], Array.getElem?_eq_getElem hi, da _ (by simp)⟩
  have gb : ∀ i, i < b.size → ∃ x, b[i]? = some x ∧ D x := fun i hi => ⟨b[i], Array.getElem?_eq_getElem hi, db _ (by simp)⟩
  rw [mergeHi'_eq]
  dsimp only
  refine wpS_bind (wpS_lift (wpAny_rule ⟨rfl, ?_⟩))
  obtain ⟨x0, hx0, dx0⟩ := ga (a.size - 1) (by omega)
  refine wpS_bind (elem_ok hx0 ?_)
  have M0 := MH.start (b := b) sa h1 hx0 (hl x0 hx0)
  by_cases c1 : a.size - 1 = 0
  · rw [if_pos (beq_iff_eq.mpr c1)]; exact wpS_pure (h _ _ Keep.refl (M0.finA sb c1))
  rw [if_neg (fun z => c1 (beq_iff_eq.mp z))]
  by_cases c2 : b.size = 1
  · rw [if_pos (beq_iff_eq.mpr c2)]; exact wpS_pure (h _ _ Keep.refl (M0.finF sa c2 hf))
  rw [if_neg (fun z => c2 (beq_iff_eq.mp z))]
  refine wpS_bind (wpS_get ?_)
  refine wpS_bind (wpS_mono (wpS_forRange (I := fun i c st' => ∃ na nb out mg, c = (none, na, nb, out, mg) ∧ MH rk a b out na nb ∧ 1 ≤ na ∧ 2 ≤ nb ∧ na ≤ a.size ∧ nb ≤ b.size ∧ i + (na + nb + 1) ≤ a.size + b.size ∧ Keep st st')
    (Q := fun c st' => ∃ r, c.1 = some r ∧ Done rk a b r ∧ Keep st st') ?_ ?_ ⟨_, _, _, _, rfl, M0, by omega, by omega, by omega, by omega, by omega, Keep.refl⟩) ?_)
  rotate_left
  · rintro c st' ⟨na, nb, out, mg, rfl, M, g1, g2, g4, g5, g3, kp⟩
    exfalso; omega
  · rintro c st' ⟨r, e, d, kp⟩
    obtain ⟨c1, c2⟩ := c
    have e : c1 = some r := e
    subst e
    exact wpS_pure (h r st' kp d)
  rintro i c st1 _ hi ⟨na, nb, out, mg, rfl, M, g1, g2, g4, g5, g3, kp⟩
  dsimp only
  refine wpS_bind (wpS_mono (wpS_forRange (I := fun x c st' => st' = st1 ∧ ∃ na nb out ac bc, c = (none, na, nb, out, ac, bc) ∧ MH rk a b out na nb ∧ 1 ≤ na ∧ 2 ≤ nb ∧ na ≤ a.size ∧ nb ≤ b.size ∧ i + x + (na + nb + 1) ≤ a.size + b.size)
    (Q := fun c st' => st' = st1 ∧ ((∃ r, c.1 = some r ∧ Done rk a b r) ∨ ∃ na nb out ac bc, c = (none, na, nb, out, ac, bc) ∧ MH rk a b out na nb ∧ 1 ≤ na ∧ 2 ≤ nb ∧ na ≤ a.size ∧ nb ≤ b.size ∧ i + 1 + (na + nb + 1) ≤ a.size + b.size)) ?_ ?_ ⟨rfl, na, nb, out, 0, 0, rfl, M, g1, g2, g4, g5, by omega⟩) ?_)
  · rintro x c st2 _ hx ⟨rfl, na, nb, out, ac, bc, rfl, M, g1, g2, g4, g5, g3⟩
    dsimp only
    obtain ⟨xb, hxb, dxb⟩ := gb (nb - 1) (by omega)
    obtain ⟨xa, hxa, dxa⟩ := ga (na - 1) (by omega)
    refine wpS_bind (elem_ok hxb ?_)
    refine wpS_bind (elem_ok hxa ?_)
    refine wpS_bind (lt_ok C (kp.k.trans hk) dxb dxa ?_)
    dsimp only
    by_cases c : rk xb < rk xa
    · rw [if_pos (decide_eq_true c)]
      refine wpS_bind (elem_ok hxa ?_)
      have M' := M.pushA' sa g1 hxa (fun y hy => by have := up_last' sb (by omega) hxb y hy; omega)
      by_cases c1 : na - 1 = 0
      · rw [if_pos (beq_iff_eq.mpr c1)]; exact wpS_pure ⟨rfl, .inl ⟨_, rfl, M'.finA sb c1⟩⟩
      rw [if_neg (fun z => c1 (beq_iff_eq.mp z))]
      by_cases c2 : ac + 1 ≥ mg
      · rw [if_pos c2]; exact wpS_pure ⟨rfl, .inr ⟨_, _, _, _, _, rfl, M', by omega, g2, by omega, g5, by omega⟩⟩
      · rw [if_neg c2]; exact wpS_pure ⟨rfl, _, _, _, _, _, rfl, M', by omega, g2, by omega, g5, by omega⟩
    · rw [if_neg (fun z => c (of_decide_eq_true z))]
      refine wpS_bind (elem_ok hxb ?_)
      have M' := M.pushB' sb (by omega) hxb (fun y hy => by have := up_last' sa g1 hxa y hy; omega)
      by_cases c1 : nb - 1 = 1
      · rw [if_pos (beq_iff_eq.mpr c1)]; exact wpS_pure ⟨rfl, .inl ⟨_, rfl, M'.finF sa c1 hf⟩⟩
      rw [if_neg (fun z => c1 (beq_iff_eq.mp z))]
      by_cases c2 : bc + 1 ≥ mg
      · rw [if_pos c2]; exact wpS_pure ⟨rfl, .inr ⟨_, _, _, _, _, rfl, M', g1, by omega, g4, by omega, by omega⟩⟩
      · rw [if_neg c2]; exact wpS_pure ⟨rfl, _, _, _, _, _, rfl, M', g1, by omega, g4, by omega, by omega⟩
  · rintro c st2 ⟨rfl, na, nb, out, ac, bc, rfl, M, g1, g2, g4, g5, g3⟩
    exact ⟨rfl, .inr ⟨_, _, _, _, _, rfl, M, g1, g2, g4, g5, by omega⟩⟩
  rintro c st2 ⟨rfl, ⟨r, e, d⟩ | ⟨na, nb, out, ac, bc, rfl, M, g1, g2, g4, g5, g3⟩⟩
  · obtain ⟨c1, c2⟩ := c
    have e : c1 = some r := e
    subst e
    exact wpS_pure ⟨r, rfl, d, kp⟩
  dsimp only
  refine wpS_bind (wpS_lift (wpAny_rule ⟨rfl, ?_⟩))
  refine wpS_bind (wpS_mono (wpS_forRange (I := fun x c st' => ∃ na nb out mg ac bc, c = (none, na, nb, out, mg, ac, bc) ∧ MH rk a b out na nb ∧ 1 ≤ na ∧ 2 ≤ nb ∧ na ≤ a.size ∧ nb ≤ b.size ∧ i + 1 + (na + nb + 1) ≤ a.size + b.size ∧ Keep st st')
    (Q := fun c st' => Keep st st' ∧ ((∃ r, c.1 = some r ∧ Done rk a b r) ∨ ∃ na nb out mg ac bc, c = (none, na, nb, out, mg, ac, bc) ∧ MH rk a b out na nb ∧ 1 ≤ na ∧ 2 ≤ nb ∧ na ≤ a.size ∧ nb ≤ b.size ∧ i + 1 + (na + nb + 1) ≤ a.size + b.size)) ?_ ?_ ⟨na, nb, out, _, ac, bc, rfl, M, g1, g2, g4, g5, g3, kp⟩) ?_)
  rotate_left
  · rintro c st3 ⟨na, nb, out, mg, ac, bc, rfl, M, g1, g2, g4, g5, g3, kp⟩
    exact ⟨kp, .inr ⟨_, _, _, _, _, _, rfl, M, g1, g2, g4, g5, g3⟩⟩
  · rintro c st3 ⟨kp, ⟨r, e, d⟩ | ⟨na, nb, out, mg, ac, bc, rfl, M, g1, g2, g4, g5, g3⟩⟩
    · obtain ⟨c1, c2⟩ := c
      have e : c1 = some r := e
      subst e
      exact wpS_pure ⟨r, rfl, d, kp⟩
    · dsimp only
      exact wpS_bind (setMin_ok fun st' k' => wpS_pure ⟨_, _, _, _, rfl, M, g1, g2, g4, g5, by omega, kp.trans k'⟩)
  rintro x c st3 _ hx ⟨na, nb, out, mg, ac, bc, rfl, M, g1, g2, g4, g5, g3, kp⟩
  dsimp only
  by_cases cg : mg > 1
  · rw [if_pos cg]
    refine wpS_mono (show wpS _ _ _ _ (hiA a b ac bc na nb out (mg - 1)) _ _ from hiA_ok (n := i + 1) C da db sa sb hf hk M g1 g2 g4 g5 g3 kp) fun r st' h => ?_
    cases r <;> exact h
  · rw [if_neg cg]
    refine wpS_mono (show wpS _ _ _ _ (hiA a b ac bc na nb out mg) _ _ from hiA_ok (n := i + 1) C da db sa sb hf hk M g1 g2 g4 g5 g3 kp) fun r st' h => ?_
    cases r <;> exact h
end
end TS
namespace TS
open PySem PyProof.Rows
def Rk (rk : Keyed → Int) (xs : Array Keyed) (i : Nat) : Int := match xs[i]? with
  | some x => rk x
  | none => 0
def Sor (rk : Keyed → Int) (xs : Array Keyed) (lo hi : Nat) : Prop := ∀ i j, lo ≤ i → i ≤ j → j < hi → Rk rk xs i ≤ Rk rk xs j
def Non (rk : Keyed → Int) (xs : Array Keyed) (lo hi : Nat) : Prop := ∀ i j, lo ≤ i → i ≤ j → j < hi → Rk rk xs j ≤ Rk rk xs i
structure SB (κ : SortKind) (l₀ : List Keyed) (st : SortSt) : Prop where
  k : kindOf st = κ
  f : failedOf st = none
  p : (arrOf st).toList.Perm l₀
theorem SB.size {κ : SortKind} {l₀ : List Keyed} {st : SortSt} (B : SB κ l₀ st) : (arrOf st).size = l₀.length := by
  have := B.p.length_eq
  simpa using this
theorem SB.get {κ : SortKind} {l₀ : List Keyed} {st : SortSt} (B : SB κ l₀ st) {i : Nat} (h : i < l₀.length) : ∃ x, (arrOf st)[i]? = some x ∧ x ∈ l₀ := by
  have hi : i < (arrOf st).size := by rw [B.size]; exact h
  exact ⟨(arrOf st)[i], Array.getElem?_eq_getElem hi, B.p.mem_iff.mp (by simp)⟩
theorem SB.set {κ : SortKind} {l₀ : List Keyed} {st : SortSt} (B : SB κ l₀ st) {xs : Array Keyed} (h : xs.Perm (arrOf st)) : SB κ l₀ (setArr st xs) := ⟨B.k, B.f, (Array.perm_iff_toList_perm.mp h).trans B.p⟩
theorem Rk_congr {rk : Keyed → Int} {xs ys : Array Keyed} {i j : Nat} (h : xs[i]? = ys[j]?) : Rk rk xs i = Rk rk ys j := by unfold Rk; rw [h]
theorem Rk_some {rk : Keyed → Int} {xs : Array Keyed} {i : Nat} {x : Keyed} (h : xs[i]? = some x) : Rk rk xs i = rk x := by unfold Rk; rw [h]
theorem Rk_mirror {rk : Keyed → Int} {xs : Array Keyed} {i j : Nat} (hj : j ≤ xs.size) (k : Nat) : Rk rk (mirror xs i j ((j - i) / 2)) k = if i ≤ k ∧ k < j then Rk rk xs (i + j - 1 - k) else Rk rk xs k := by
  have e := getElem?_mirror_all (i := i) hj k
  by_cases h : i ≤ k ∧ k < j
  · rw [if_pos h] at e ⊢; exact Rk_congr e
  · rw [if_neg h] at e ⊢; exact Rk_congr e
theorem mirror_out {xs : Array Keyed} {i j : Nat} (hj : j ≤ xs.size) {k : Nat} (h : k < i) : (mirror xs i j ((j - i) / 2))[k]? = xs[k]? := by
  rw [getElem?_mirror_all hj k, if_neg (by omega)]
theorem Rk_alike {rk : Keyed → Int} {xs : Array Keyed} {i j : Nat} (hj : j ≤ xs.size) (h : ∀ k, i ≤ k → k < j → Rk rk xs k = Rk rk xs (j - 1)) (k : Nat) : Rk rk (mirror xs i j ((j - i) / 2)) k = Rk rk xs k := by
  rw [Rk_mirror hj]
  by_cases hk : i ≤ k ∧ k < j
  · rw [if_pos hk, h _ (by omega) (by omega), h k hk.1 hk.2]
  · rw [if_neg hk]
theorem Rk_bubble {rk : Keyed → Int} {xs : Array Keyed} {p d : Nat} (hs : p < xs.size) (hd : d ≤ p) (k : Nat) : Rk rk (bubble xs p d) k = if k = p - d then Rk rk xs p else if p - d < k ∧ k ≤ p then Rk rk xs (k - 1) else Rk rk xs k := by
  have e := getElem?_bubble hs d hd k
  by_cases h1 : k = p - d
  · rw [if_pos h1] at e ⊢; exact Rk_congr e
  rw [if_neg h1] at e ⊢
  by_cases h2 : p - d < k ∧ k ≤ p
  · rw [if_pos h2] at e ⊢; exact Rk_congr e
  · rw [if_neg h2] at e ⊢; exact Rk_congr e
structure From (lo : Nat) (st st' : SortSt) : Prop where
  p : pendingOf st' = pendingOf st
  o : ∀ k, k < lo → (arrOf st')[k]? = (arrOf st)[k]?
theorem From.refl {lo : Nat} {st : SortSt} : From lo st st := ⟨rfl, fun _ _ => rfl⟩
theorem From.trans {lo : Nat} {a b c : SortSt} (h : From lo a b) (h' : From lo b c) : From lo a c := ⟨h'.p.trans h.p, fun k hk => (h'.o k hk).trans (h.o k hk)⟩
section
variable {prog : Program} {w : World} {A : Around} {E : Value → Shared → Prop} {s : Shared} {κ : SortKind} {rk : Keyed → Int} {D : Keyed → Prop} {l₀ : List Keyed}
theorem ltAt_ok (C : Cmp prog w A s κ rk D) (hD : ∀ x ∈ l₀, D x) {st : SortSt} (B : SB κ l₀ st) {i j : Nat} (hi : i < l₀.length) (hj : j < l₀.length) {Q : Option Bool → SortSt → Prop}
    (h : Q (some (decide (Rk rk (arrOf st) i < Rk rk (arrOf st) j))) st) : wpS (model prog w) A E s (ltAt' i j) Q st := by
  obtain ⟨x, hx, mx⟩ := B.get hi
  obtain ⟨y, hy, my⟩ := B.get hj
  rw [Rk_some hx, Rk_some hy] at h
  rw [ltAt'_eq]
  refine wpS_bind (wpS_get ?_)
  exact wpS_bind (elem_ok hx (wpS_bind (elem_ok hy (lt_ok C B.k (hD x mx) (hD y my) h))))
theorem rev_ok {st : SortSt} {i j : Nat} {Q : Unit → SortSt → Prop} (h : Q () (setArr st (mirror (arrOf st) i j ((j - i) / 2)))) : wpS (model prog w) A E s (reverseSlice' i j) Q st := by
  rw [reverseSlice'_eq]
  exact wpS_modify h
def cr3 (lo nrem n : Nat) : StateT SortSt Sem (Option Nat) := do
  let mut m := n
  reverseSlice' lo (lo + m)
  for _ in [m:nrem] do
    let some sm ← ltAt' (lo + m) (lo + m - 1) | return none
    if sm then break
    m := m + 1
  return some m
def cr2 (lo nrem n : Nat) : StateT SortSt Sem (Option Nat) := do
  let mut m := n
  rule "list.sort.descending-run"
  m := m + 1
  let mut like := 0
  for _ in [m:nrem] do
    let some sm ← ltAt' (lo + m) (lo + m - 1) | return none
    if sm then
      if like > 0 then reverseSlice' (lo + m - (like + 1)) (lo + m)
      like := 0
    else
      let some lg ← ltAt' (lo + m - 1) (lo + m) | return none
      if lg then break
      like := like + 1
    m := m + 1
  if like > 0 then reverseSlice' (lo + m - (like + 1)) (lo + m)
  cr3 lo nrem m
theorem run_eq (lo nrem : Nat) : countRun' lo nrem = (do
  let mut m := 1
  for _ in [1:nrem] do
    let some sm ← ltAt' (lo + m) (lo + m - 1) | return none
    if sm then break
    m := m + 1
  if m == nrem then return some m
  if m > 1 then
    let some up ← ltAt' lo (lo + m - 1) | return none
    if up then return some m
    reverseSlice' lo (lo + m)
  rule "list.sort.descending-run"
  m := m + 1
  let mut like := 0
  for _ in [m:nrem] do
    let some sm ← ltAt' (lo + m) (lo + m - 1) | return none
    if sm then
      if like > 0 then reverseSlice' (lo + m - (like + 1)) (lo + m)
      like := 0
    else
      let some lg ← ltAt' (lo + m - 1) (lo + m) | return none
      if lg then break
      like := like + 1
    m := m + 1
  if like > 0 then reverseSlice' (lo + m - (like + 1)) (lo + m)
  reverseSlice' lo (lo + m)
  for _ in [m:nrem] do
    let some sm ← ltAt' (lo + m) (lo + m - 1) | return none
    if sm then break
    m := m + 1
  return some m) := rfl
theorem cr3_ok (C : Cmp prog w A s κ rk D) (hD : ∀ x ∈ l₀, D x) {st' st4 : SortSt} {lo nrem x : Nat} (x0 : 1 ≤ x) (x1 : x ≤ nrem) (hn : lo + nrem ≤ l₀.length) (B4 : SB κ l₀ st4) (f4 : From lo st' st4) (no4 : Non rk (arrOf st4) lo (lo + x)) {Q : Option Nat → SortSt → Prop}
    (h : ∀ n st2, SB κ l₀ st2 → 1 ≤ n → n ≤ nrem → Sor rk (arrOf st2) lo (lo + n) → From lo st' st2 → Q (some n) st2) : wpS (model prog w) A E s (cr3 lo nrem x) Q st4 := by
  unfold cr3
  dsimp only
  have hs4 : lo + x ≤ (arrOf st4).size := by rw [B4.size]; omega
  refine wpS_bind (rev_ok ?_)
  have B5 := B4.set (mirror_perm (arrOf st4) lo (lo + x) ((lo + x - lo) / 2))
  have f5 : From lo st' (setArr st4 (mirror (arrOf st4) lo (lo + x) ((lo + x - lo) / 2))) := f4.trans ⟨rfl, fun k hk => mirror_out hs4 hk⟩
  have so5 : Sor rk (arrOf (setArr st4 (mirror (arrOf st4) lo (lo + x) ((lo + x - lo) / 2)))) lo (lo + x) := fun i j a b d => by
    show Rk rk (mirror _ _ _ _) i ≤ Rk rk (mirror _ _ _ _) j
    rw [Rk_mirror hs4, Rk_mirror hs4, if_pos ⟨a, by omega⟩, if_pos ⟨by omega, d⟩]
    exact no4 _ _ (by omega) (by omega) (by omega)
  generalize setArr st4 (mirror (arrOf st4) lo (lo + x) ((lo + x - lo) / 2)) = st5 at *
  refine wpS_bind (wpS_mono (wpS_forRange (I := fun y c st' => st' = st5 ∧ c = (none, y) ∧ y ≤ nrem ∧ Sor rk (arrOf st5) lo (lo + y))
    (Q := fun c st' => st' = st5 ∧ ∃ n, c = (none, n) ∧ 1 ≤ n ∧ n ≤ nrem ∧ Sor rk (arrOf st5) lo (lo + n)) ?_ ?_ ⟨rfl, rfl, x1, so5⟩) ?_)
  · rintro y c st6 hx1 hx ⟨rfl, rfl, hxn, so⟩
    dsimp only
    refine wpS_bind (ltAt_ok C hD B5 (by omega) (by omega) ?_)
    dsimp only
    by_cases c : Rk rk (arrOf st6) (lo + y) < Rk rk (arrOf st6) (lo + y - 1)
    · rw [if_pos (decide_eq_true c)]; exact wpS_pure ⟨rfl, y, rfl, by omega, hxn, so⟩
    · rw [if_neg (fun z => c (of_decide_eq_true z))]
      refine wpS_pure ⟨rfl, rfl, by omega, fun i j a b d => ?_⟩
      by_cases hj : j < lo + y
      · exact so i j a b hj
      · have ej : j = lo + y := by omega
        subst ej
        by_cases hi : i = lo + y
        · subst hi; exact Int.le_refl _
        · have := so i (lo + y - 1) a (by omega) (by omega)
          omega
  · rintro c st6 ⟨rfl, rfl, hxn, so⟩
    exact ⟨rfl, _, rfl, by omega, hxn, so⟩
  rintro c st6 ⟨rfl, m, rfl, m1, m2, so⟩
  exact wpS_pure (h m st6 B5 m1 m2 so f5)
theorem cr2_ok (C : Cmp prog w A s κ rk D) (hD : ∀ x ∈ l₀, D x) {st' st2 : SortSt} {lo nrem n : Nat} (n1 : 1 ≤ n) (n2 : n < nrem) (hn : lo + nrem ≤ l₀.length) (B2 : SB κ l₀ st2) (f2 : From lo st' st2) (no : Non rk (arrOf st2) lo (lo + (n + 1))) {Q : Option Nat → SortSt → Prop}
    (h : ∀ n st2, SB κ l₀ st2 → 1 ≤ n → n ≤ nrem → Sor rk (arrOf st2) lo (lo + n) → From lo st' st2 → Q (some n) st2) : wpS (model prog w) A E s (cr2 lo nrem n) Q st2 := by
  unfold cr2
  dsimp only
  refine wpS_bind (wpS_lift (wpAny_rule ⟨rfl, ?_⟩))
  refine wpS_bind (wpS_mono (wpS_forRange (I := fun x c st3 => ∃ q, c = (none, x, q) ∧ x ≤ nrem ∧ q + 1 ≤ x ∧ SB κ l₀ st3 ∧ From lo st' st3 ∧ Non rk (arrOf st3) lo (lo + x) ∧ ∀ k, lo + x - (q + 1) ≤ k → k < lo + x → Rk rk (arrOf st3) k = Rk rk (arrOf st3) (lo + x - 1))
    (Q := fun c st3 => ∃ x q, c = (none, x, q) ∧ 1 ≤ x ∧ x ≤ nrem ∧ q + 1 ≤ x ∧ SB κ l₀ st3 ∧ From lo st' st3 ∧ Non rk (arrOf st3) lo (lo + x) ∧ ∀ k, lo + x - (q + 1) ≤ k → k < lo + x → Rk rk (arrOf st3) k = Rk rk (arrOf st3) (lo + x - 1)) ?_ ?_ ⟨0, rfl, by omega, by omega, B2, f2, no, fun k a b => ?_⟩) ?_)
  · rintro x c st3 hx1 hx ⟨q, rfl, x1, x2, B3, f3, no3, al⟩
    dsimp only
    have hs : lo + x ≤ (arrOf st3).size := by rw [B3.size]; omega
    refine wpS_bind (ltAt_ok C hD B3 (by omega) (by omega) ?_)
    dsimp only
    by_cases c : Rk rk (arrOf st3) (lo + x) < Rk rk (arrOf st3) (lo + x - 1)
    · rw [if_pos (decide_eq_true c)]
      have nx : ∀ xs : Array Keyed, (∀ k, Rk rk xs k = Rk rk (arrOf st3) k) → Non rk xs lo (lo + (x + 1)) := fun xs hx i j a b d => by
        rw [hx, hx]
        by_cases hj : j < lo + x
        · exact no3 i j a b hj
        · have ej : j = lo + x := by omega
          subst ej
          by_cases hi : i = lo + x
          · subst hi; exact Int.le_refl _
          · have := no3 i (lo + x - 1) a (by omega) (by omega); omega
      by_cases c2 : q > 0
      · rw [if_pos c2]
        have ra := Rk_alike hs al
        refine wpS_bind (rev_ok (wpS_pure ⟨0, rfl, by omega, by omega, B3.set (mirror_perm _ _ _ _), f3.trans ⟨rfl, fun k hk => mirror_out hs (by omega)⟩, nx _ ra, fun k a b => ?_⟩))
        have : k = lo + (x + 1) - 1 := by omega
        rw [this]
      · rw [if_neg c2]
        refine wpS_pure ⟨0, rfl, by omega, by omega, B3, f3, nx _ fun _ => rfl, fun k a b => ?_⟩
        have : k = lo + (x + 1) - 1 := by omega
        rw [this]
    · rw [if_neg (fun z => c (of_decide_eq_true z))]
      refine wpS_bind (ltAt_ok C hD B3 (by omega) (by omega) ?_)
      dsimp only
      by_cases c2 : Rk rk (arrOf st3) (lo + x - 1) < Rk rk (arrOf st3) (lo + x)
      · rw [if_pos (decide_eq_true c2)]; exact wpS_pure ⟨x, q, rfl, by omega, x1, x2, B3, f3, no3, al⟩
      · rw [if_neg (fun z => c2 (of_decide_eq_true z))]
        have eq : Rk rk (arrOf st3) (lo + x) = Rk rk (arrOf st3) (lo + x - 1) := by omega
        have ex : lo + (x + 1) - 1 = lo + x := by omega
        refine wpS_pure ⟨q + 1, rfl, by omega, by omega, B3, f3, fun i j a b d => ?_, fun k a b => ?_⟩
        · by_cases hj : j < lo + x
          · exact no3 i j a b hj
          · have ej : j = lo + x := by omega
            subst ej
            by_cases hi : i = lo + x
            · subst hi; exact Int.le_refl _
            · have := no3 i (lo + x - 1) a (by omega) (by omega); omega
        · rw [ex, eq]
          by_cases hk : k = lo + x
          · rw [hk]; exact eq
          · exact al k (by omega) (by omega)
  · rintro c st3 ⟨q, rfl, x1, x2, B3, f3, no3, al⟩
    exact ⟨_, q, rfl, by omega, x1, x2, B3, f3, no3, al⟩
  · have : k = lo + (n + 1) - 1 := by omega
    rw [this]
  rintro c st3 ⟨x, q, rfl, x0, x1, x2, B3, f3, no3, al⟩
  dsimp only
  have hs : lo + x ≤ (arrOf st3).size := by rw [B3.size]; omega
  by_cases c : q > 0
  · rw [if_pos c]
    have ra := Rk_alike hs al
    refine wpS_bind (rev_ok (cr3_ok C hD x0 x1 hn (B3.set (mirror_perm _ _ _ _)) (f3.trans ⟨rfl, fun k hk => mirror_out hs (by omega)⟩) (fun i j a b d => ?_) h))
    show Rk rk (mirror _ _ _ _) j ≤ Rk rk (mirror _ _ _ _) i
    rw [ra, ra]; exact no3 i j a b d
  · rw [if_neg c]; exact cr3_ok C hD x0 x1 hn B3 f3 no3 h
theorem countRun_ok (C : Cmp prog w A s κ rk D) (hD : ∀ x ∈ l₀, D x) {st : SortSt} (B : SB κ l₀ st) {lo nrem : Nat} (h1 : 1 ≤ nrem) (hn : lo + nrem ≤ l₀.length) {Q : Option Nat → SortSt → Prop}
    (h : ∀ n st', SB κ l₀ st' → 1 ≤ n → n ≤ nrem → Sor rk (arrOf st') lo (lo + n) → From lo st st' → Q (some n) st') : wpS (model prog w) A E s (countRun' lo nrem) Q st := by
  rw [run_eq]
  dsimp only
  refine wpS_bind (wpS_mono (wpS_forRange (I := fun x c st' => st' = st ∧ c = (none, x) ∧ x ≤ nrem ∧ Sor rk (arrOf st) lo (lo + x))
    (Q := fun c st' => st' = st ∧ ∃ n, c = (none, n) ∧ 1 ≤ n ∧ n ≤ nrem ∧ Sor rk (arrOf st) lo (lo + n) ∧ (n < nrem → Rk rk (arrOf st) (lo + n) < Rk rk (arrOf st) (lo + n - 1))) ?_ ?_ ⟨rfl, rfl, h1, fun i j a b c => ?_⟩) ?_)
  · rintro x c st' hx1 hx ⟨rfl, rfl, hxn, so⟩
    dsimp only
    refine wpS_bind (ltAt_ok C hD B (by omega) (by omega) ?_)
    dsimp only
    by_cases c : Rk rk (arrOf st') (lo + x) < Rk rk (arrOf st') (lo + x - 1)
    · rw [if_pos (decide_eq_true c)]; exact wpS_pure ⟨rfl, x, rfl, hx1, hxn, so, fun _ => c⟩
    · rw [if_neg (fun z => c (of_decide_eq_true z))]
      refine wpS_pure ⟨rfl, rfl, by omega, fun i j a b d => ?_⟩
      by_cases hj : j < lo + x
      · exact so i j a b hj
      · have ej : j = lo + x := by omega
        subst ej
        by_cases hi : i = lo + x
        · subst hi; exact Int.le_refl _
        · have := so i (lo + x - 1) a (by omega) (by omega)
          omega
  · rintro c st' ⟨rfl, rfl, hxn, so⟩
    rw [Nat.max_eq_right h1] at so
    exact ⟨rfl, nrem, by rw [Nat.max_eq_right h1], h1, Nat.le_refl _, so, fun z => by omega⟩
  · have : i = j := by omega
    subst this; exact Int.le_refl _
  rintro c st' ⟨rfl, n, rfl, n1, n2, so, hb⟩
  dsimp only
  by_cases cn : n = nrem
  · rw [if_pos (beq_iff_eq.mpr cn)]; exact wpS_pure (h n st' B n1 n2 so From.refl)
  rw [if_neg (fun z => cn (beq_iff_eq.mp z))]
  have hb := hb (by omega)
  by_cases c : n > 1
  · rw [if_pos c]
    refine wpS_bind (ltAt_ok C hD B (by omega) (by omega) ?_)
    dsimp only
    by_cases c2 : Rk rk (arrOf st') lo < Rk rk (arrOf st') (lo + n - 1)
    · rw [if_pos (decide_eq_true c2)]; exact wpS_pure (h n st' B n1 n2 so From.refl)
    · rw [if_neg (fun z => c2 (of_decide_eq_true z))]
      have al : ∀ k, lo ≤ k → k < lo + n → Rk rk (arrOf st') k = Rk rk (arrOf st') (lo + n - 1) := fun k a b => by
        have := so lo k (Nat.le_refl _) a b
        have := so k (lo + n - 1) a (by omega) (by omega)
        omega
      have hs : lo + n ≤ (arrOf st').size := by rw [B.size]; omega
      have ra := Rk_alike hs al
      refine wpS_bind (rev_ok (show wpS _ _ _ _ (cr2 lo nrem n) _ _ from cr2_ok (st' := st') C hD n1 (by omega) hn (B.set (mirror_perm _ _ _ _)) ⟨rfl, fun k hk => mirror_out hs hk⟩ (fun i j a b d => ?_) h))
      · show Rk rk (mirror _ _ _ _) j ≤ Rk rk (mirror _ _ _ _) i
        rw [ra, ra]
        by_cases hj : j = lo + n
        · subst hj
          by_cases hi : i = lo + n
          · subst hi; exact Int.le_refl _
          · have := al i a (by omega); omega
        · have := al i a (by omega)
          have := al j (by omega) (by omega)
          omega
  · rw [if_neg c]
    have e : n = 1 := by omega
    subst e
    refine (show wpS _ _ _ _ (cr2 lo nrem 1) _ _ from cr2_ok (st' := st') C hD n1 (by omega) hn B From.refl (fun i j a b d => ?_) h)
    by_cases e : i = j
    · subst e; exact Int.le_refl _
    · have e1 : i = lo + 1 - 1 := by omega
      have e2 : j = lo + 1 := by omega
      rw [e1, e2]; exact Int.le_of_lt hb
theorem binarySort_ok (C : Cmp prog w A s κ rk D) (hD : ∀ x ∈ l₀, D x) {st : SortSt} (B : SB κ l₀ st) {lo n ok : Nat} (hn : lo + n ≤ l₀.length) (h1 : 1 ≤ ok) (h2 : ok ≤ n) (so : Sor rk (arrOf st) lo (lo + ok)) {Q : Bool → SortSt → Prop}
    (h : ∀ st', SB κ l₀ st' → Sor rk (arrOf st') lo (lo + n) → From lo st st' → Q true st') : wpS (model prog w) A E s (binarySort' lo n ok) Q st := by
  rw [binarySort'_eq]
  (try dsimp only)
  rw [Nat.max_eq_left h1]
  refine wpS_bind (wpS_mono (wpS_forRange (I := fun k c st' => c = (none, ()) ∧ k ≤ n ∧ SB κ l₀ st' ∧ Sor rk (arrOf st') lo (lo + k) ∧ From lo st st')
    (Q := fun c st' => c = (none, ()) ∧ SB κ l₀ st' ∧ Sor rk (arrOf st') lo (lo + n) ∧ From lo st st') ?_ ?_ ⟨rfl, h2, B, so, From.refl⟩) ?_)
  · rintro k c st1 hk1 hk ⟨rfl, _, B1, so1, f1⟩
    (try dsimp only)
    refine wpS_bind (wpS_mono (wpS_forRange (I := fun x c st' => st' = st1 ∧ ∃ l r, c = (none, l, r) ∧ l ≤ r ∧ r ≤ k ∧ r - l ≤ k - x ∧ (∀ i, i < l → Rk rk (arrOf st1) (lo + i) ≤ Rk rk (arrOf st1) (lo + k)) ∧ ∀ i, r ≤ i → i < k → Rk rk (arrOf st1) (lo + k) < Rk rk (arrOf st1) (lo + i))
      (Q := fun c st' => st' = st1 ∧ ∃ l, c = (none, l, l) ∧ l ≤ k ∧ (∀ i, i < l → Rk rk (arrOf st1) (lo + i) ≤ Rk rk (arrOf st1) (lo + k)) ∧ ∀ i, l ≤ i → i < k → Rk rk (arrOf st1) (lo + k) < Rk rk (arrOf st1) (lo + i)) ?_ ?_ ⟨rfl, 0, k, rfl, by omega, by omega, by omega, fun i z => by omega, fun i a b => by omega⟩) ?_)
    · rintro x c st2 _ hx ⟨rfl, l, r, rfl, g1, g2, g3, g4, g5⟩
      (try dsimp only)
      by_cases c : l ≥ r
      · rw [if_pos c]
        have e : l = r := by omega
        subst e
        exact wpS_pure ⟨rfl, l, rfl, g2, g4, g5⟩
      · rw [if_neg c]
        refine wpS_bind (ltAt_ok C hD B1 (by omega) (by omega) ?_)
        (try dsimp only)
        by_cases c2 : Rk rk (arrOf st2) (lo + k) < Rk rk (arrOf st2) (lo + (l + r) / 2)
        · rw [if_pos (decide_eq_true c2)]
          refine wpS_pure ⟨rfl, l, _, rfl, by omega, by omega, by omega, g4, fun i a b => ?_⟩
          have := so1 (lo + (l + r) / 2) (lo + i) (by omega) (by omega) (by omega)
          omega
        · rw [if_neg (fun z => c2 (of_decide_eq_true z))]
          refine wpS_pure ⟨rfl, _, r, rfl, by omega, g2, by omega, fun i a => ?_, g5⟩
          have := so1 (lo + i) (lo + (l + r) / 2) (by omega) (by omega) (by omega)
          omega
    · rintro c st2 ⟨rfl, l, r, rfl, g1, g2, g3, g4, g5⟩
      have e : l = r := by omega
      subst e
      exact ⟨rfl, l, rfl, g2, g4, g5⟩
    rintro c st2 ⟨rfl, l, rfl, g2, g4, g5⟩
    show wpS _ _ _ _ (do moveDown' (lo + k) (lo + l); pure (ForInStep.yield (none, ()))) _ _
    rw [moveDown'_eq]
    have hs : lo + k < (arrOf st2).size := by rw [B1.size]; omega
    have ed : lo + k - (lo + l) = k - l := by omega
    have ed2 : lo + k - (k - l) = lo + l := by omega
    refine wpS_bind (wpS_modify (wpS_pure ⟨rfl, by omega, B1.set (bubble_perm _ _ _), fun i j a b d => ?_, f1.trans ⟨rfl, fun m hm => ?_⟩⟩))
    · show Rk rk (bubble (arrOf st2) (lo + k) (lo + k - (lo + l))) i ≤ Rk rk (bubble (arrOf st2) (lo + k) (lo + k - (lo + l))) j
      rw [ed, Rk_bubble hs (by omega), Rk_bubble hs (by omega), ed2]
      have lo1 : ∀ m, lo ≤ m → m < lo + l → Rk rk (arrOf st2) m ≤ Rk rk (arrOf st2) (lo + k) := fun m a b => by
        have := g4 (m - lo) (by omega)
        rw [show lo + (m - lo) = m by omega] at this; exact this
      have hi1 : ∀ m, lo + l ≤ m → m < lo + k → Rk rk (arrOf st2) (lo + k) < Rk rk (arrOf st2) m := fun m a b => by
        have := g5 (m - lo) (by omega) (by omega)
        rw [show lo + (m - lo) = m by omega] at this; exact this
      repeat' split
      all_goals first
        | (exfalso; omega)
        | exact Int.le_refl _
        | exact lo1 _ (by omega) (by omega)
        | exact Int.le_of_lt (hi1 _ (by omega) (by omega))
        | exact so1 _ _ (by omega) (by omega) (by omega)
    · show (bubble (arrOf st2) (lo + k) (lo + k - (lo + l)))[m]? = _
      rw [getElem?_bubble hs _ (by omega), if_neg (by omega), if_neg (by omega)]
  · rintro c st1 ⟨rfl, _, B1, so1, f1⟩
    rw [Nat.max_eq_right h2] at so1
    exact ⟨rfl, B1, so1, f1⟩
  rintro c st1 ⟨rfl, B1, so1, f1⟩
  exact wpS_pure (h st1 B1 so1 f1)
end
end TS
namespace TS
open PySem PyProof.Rows
section
variable {rk : Keyed → Int}
theorem put_toList {sa : Nat} : ∀ (m : List Keyed) (k : Nat) (xs : Array Keyed), sa + k + m.length ≤ xs.size →
    (List.foldl (fun a (x : Keyed × Nat) => a.setIfInBounds (sa + x.2) x.1) xs (m.zipIdx k)).toList = xs.toList.take (sa + k) ++ (m ++ xs.toList.drop (sa + k + m.length))
  | [], k, xs, h => by simp
  | p :: m, k, xs, h => by
    rw [List.length_cons] at h
    rw [List.zipIdx_cons, List.foldl_cons, put_toList m (k + 1) _ (by rw [Array.size_setIfInBounds]; omega), Array.toList_setIfInBounds]
    have hk : sa + k < xs.toList.length := by simp; omega
    have e1 : (xs.toList.set (sa + k) p).take (sa + (k + 1)) = xs.toList.take (sa + k) ++ [p] := by
      rw [show sa + (k + 1) = sa + k + 1 by omega, List.take_add_one, List.take_set_of_le (Nat.le_refl _), List.getElem?_set_self hk]; rfl
    have e2 : (xs.toList.set (sa + k) p).drop (sa + (k + 1) + m.length) = xs.toList.drop (sa + k + (m.length + 1)) := by
      rw [List.drop_set_of_lt (by omega), show sa + (k + 1) + m.length = sa + k + (m.length + 1) by omega]
    rw [e1, e2, List.append_assoc]; rfl
theorem ext_get {xs : Array Keyed} {lo hi i : Nat} (h : hi ≤ xs.size) (hi' : lo + i < hi) : (xs.extract lo hi)[i]? = xs[lo + i]? := by
  rw [Array.getElem?_extract, if_pos (by omega)]
theorem ext_up {xs : Array Keyed} {lo hi : Nat} (h : hi ≤ xs.size) (so : Sor rk xs lo hi) : Up rk (xs.extract lo hi).toList := by
  refine List.pairwise_iff_getElem.mpr fun i j hi' hj hij => ?_
  have hj' : j < (xs.extract lo hi).size := by rw [← Array.length_toList]; exact hj
  rw [Array.size_extract] at hj'
  have a1 := ext_get (lo := lo) (hi := hi) (i := i) h (by omega)
  have a2 := ext_get (lo := lo) (hi := hi) (i := j) h (by omega)
  have b1 : (xs.extract lo hi)[i]? = some (xs.extract lo hi).toList[i] := by rw [← Array.getElem?_toList]; exact List.getElem?_eq_getElem hi'
  have b2 : (xs.extract lo hi)[j]? = some (xs.extract lo hi).toList[j] := by rw [← Array.getElem?_toList]; exact List.getElem?_eq_getElem hj
  have := so (lo + i) (lo + j) (by omega) (by omega) (by omega)
  rw [Rk_some (a1.symm.trans b1), Rk_some (a2.symm.trans b2)] at this
  exact this
theorem ext_mem {xs : Array Keyed} {lo hi : Nat} (h : hi ≤ xs.size) {z : Keyed} (hz : z ∈ (xs.extract lo hi).toList) : ∃ m, lo ≤ m ∧ m < hi ∧ xs[m]? = some z := by
  obtain ⟨i, e⟩ := List.mem_iff_getElem?.mp hz
  have hi' := (List.getElem?_eq_some_iff.mp e).1
  have hj' : i < (xs.extract lo hi).size := by rw [← Array.length_toList]; exact hi'
  rw [Array.size_extract] at hj'
  rw [Array.getElem?_toList] at e
  exact ⟨lo + i, by omega, by omega, (ext_get h (by omega)).symm.trans e⟩
end
structure Swap (lo hi : Nat) (xs ys : Array Keyed) : Prop where
  o : ∀ k, k < lo ∨ hi ≤ k → ys[k]? = xs[k]?
section
variable {prog : Program} {w : World} {A : Around} {E : Value → Shared → Prop} {s : Shared} {κ : SortKind} {rk : Keyed → Int} {D : Keyed → Prop} {l₀ : List Keyed}
theorem wpS_set {M : Model} {σ : Type} {x : σ} {Q : PUnit → σ → Prop} {st : σ} (h : Q ⟨⟩ x) : wpS M A E s (set x : StateT σ Sem PUnit) Q st := by
  unfold wpS; rw [StateT.run_set]; exact wpAny_pure ⟨rfl, h⟩
theorem put_back {xs ys r : Array Keyed} {sa m sb e e' : Nat} (hm : sa ≤ m) (hmb : m < sb) (hbe : sb < e) (hee : e ≤ e') (hsz : e' ≤ xs.size) (so1 : Sor rk xs sa sb) (so2 : Sor rk xs sb e')
    (h1 : ∀ i, sa ≤ i → i < m → Rk rk xs i ≤ Rk rk xs sb) (h2 : ∀ i, e ≤ i → i < e' → Rk rk xs (sb - 1) ≤ Rk rk xs i)
    (hd : Done rk (xs.extract m sb) (xs.extract sb e) r) (hy : ys.toList = xs.toList.take m ++ (r.toList ++ xs.toList.drop (m + r.toList.length))) :
    ys.toList.Perm xs.toList ∧ Sor rk ys sa e' ∧ Swap sa e' xs ys := by
  have hl : r.toList.length = e - m := by
    have := hd.1.length_eq
    rw [List.length_append] at this
    simp only [Array.length_toList, Array.size_extract] at this
    simp only [Array.length_toList]
    omega
  have hme : m + r.toList.length = e := by omega
  rw [hme] at hy
  have hlt : (xs.toList.take m).length = m := by rw [List.length_take]; simp; omega
  have g1 : ∀ k, k < m → ys[k]? = xs[k]? := fun k hk => by
    rw [← Array.getElem?_toList, hy, List.getElem?_append_left (by omega), List.getElem?_take, if_pos hk, Array.getElem?_toList]
  have g2 : ∀ k, m ≤ k → k < e → ys[k]? = r[k - m]? := fun k a b => by
    rw [← Array.getElem?_toList, hy, List.getElem?_append_right (by omega), hlt, List.getElem?_append_left (by omega), Array.getElem?_toList]
  have g3 : ∀ k, e ≤ k → ys[k]? = xs[k]? := fun k a => by
    rw [← Array.getElem?_toList, hy, List.getElem?_append_right (by omega), hlt, List.getElem?_append_right (by omega), List.getElem?_drop, hl, Array.getElem?_toList]
    congr 1; omega
  have inr : ∀ k, m ≤ k → k < e → ∃ i, m ≤ i ∧ i < e ∧ Rk rk ys k = Rk rk xs i := fun k a b => by
    have hkr : k - m < r.toList.length := by omega
    have er : r[k - m]? = some r.toList[k - m] := by rw [← Array.getElem?_toList]; exact List.getElem?_eq_getElem hkr
    have hz := hd.1.mem_iff.mp (List.getElem_mem hkr)
    rcases List.mem_append.mp hz with hz | hz
    · obtain ⟨i, i1, i2, ei⟩ := ext_mem (by omega) hz
      exact ⟨i, i1, by omega, by rw [Rk_some ((g2 k a b).trans er), Rk_some ei]⟩
    · obtain ⟨i, i1, i2, ei⟩ := ext_mem (by omega) hz
      exact ⟨i, by omega, i2, by rw [Rk_some ((g2 k a b).trans er), Rk_some ei]⟩
  refine ⟨?_, fun i j a b c => ?_, ⟨fun k hk => ?_⟩⟩
  · have ex : xs.toList = xs.toList.take m ++ (((xs.extract m sb).toList ++ (xs.extract sb e).toList) ++ xs.toList.drop e) := by
      have e1 : (xs.extract m sb).toList ++ (xs.extract sb e).toList = (xs.toList.drop m).take (e - m) := by
        rw [Array.toList_extract, Array.toList_extract, List.extract_eq_take_drop, List.extract_eq_take_drop]
        have q : xs.toList.drop sb = (xs.toList.drop m).drop (sb - m) := by rw [List.drop_drop]; congr 1; omega
        rw [q, show e - m = (sb - m) + (e - sb) by omega, List.take_add]
      have e2 : xs.toList.drop e = (xs.toList.drop m).drop (e - m) := by rw [List.drop_drop]; congr 1; omega
      rw [e1, e2, List.take_append_drop, List.take_append_drop]
    rw [hy]
    conv => rhs; rw [ex]
    exact List.Perm.append_left _ (List.Perm.append_right _ hd.1)
  · by_cases ci : i < m
    · rw [Rk_congr (g1 i ci)]
      by_cases cj : j < m
      · rw [Rk_congr (g1 j cj)]; exact so1 i j a b (by omega)
      by_cases cj2 : j < e
      · obtain ⟨k, k1, k2, ek⟩ := inr j (by omega) cj2
        rw [ek]
        by_cases ck : k < sb
        · exact so1 i k a (by omega) ck
        · have := h1 i a ci
          have := so2 sb k (Nat.le_refl _) (by omega) (by omega)
          omega
      · rw [Rk_congr (g3 j (by omega))]
        have := h1 i a ci
        have := so2 sb j (Nat.le_refl _) (by omega) c
        omega
    by_cases ci2 : i < e
    · by_cases cj2 : j < e
      · have hu := hd.2
        have hir : i - m < r.toList.length := by omega
        have hjr : j - m < r.toList.length := by omega
        have e1 : r[i - m]? = some r.toList[i - m] := by rw [← Array.getElem?_toList]; exact List.getElem?_eq_getElem hir
        have e2 : r[j - m]? = some r.toList[j - m] := by rw [← Array.getElem?_toList]; exact List.getElem?_eq_getElem hjr
        rw [Rk_some ((g2 i (by omega) ci2).trans e1), Rk_some ((g2 j (by omega) cj2).trans e2)]
        by_cases hij : i = j
        · subst hij; exact Int.le_refl _
        · exact List.pairwise_iff_getElem.mp hu _ _ hir hjr (by omega)
      · obtain ⟨k, k1, k2, ek⟩ := inr i (by omega) ci2
        rw [ek, Rk_congr (g3 j (by omega))]
        by_cases ck : k < sb
        · have := so1 k (sb - 1) (by omega) (by omega) (by omega)
          have := h2 j (by omega) c
          omega
        · exact so2 k j (by omega) (by omega) c
    · rw [Rk_congr (g3 i (by omega)), Rk_congr (g3 j (by omega))]
      exact so2 i j (by omega) b c
  · rcases hk with hk | hk
    · exact g1 k (by omega)
    · exact g3 k (by omega)
def ma2 (sa : Nat) (r : Array Keyed) : StateT SortSt Sem Bool := do
  modify fun s => setArr s (r.toList.zipIdx.foldl (fun a (x, j) => a.setIfInBounds (sa + j) x) (arrOf s))
  return (failedOf (← get)).isNone
theorem mergeAt'_eq (i : Nat) : mergeAt' i = (do
  let s ← get
  let (some (sa, na, pw), some (sb, nb, _)) := ((pendingOf s)[i]?, (pendingOf s)[i + 1]?) | unsupported "internal:list.sort.pending"
  set (setPending s (((pendingOf s).setIfInBounds i (sa, na + nb, pw)).eraseIdxIfInBounds (i + 1)))
  let some k ← gallop' false (← elem' (arrOf s) sb) (arrOf s) sa na 0 | return false
  let (sa, na) := (sa + k, na - k)
  if na == 0 then return true
  let some nb ← gallop' true (← elem' (arrOf s) (sa + na - 1)) (arrOf s) sb nb (nb - 1) | return false
  if nb == 0 then return true
  let xs := (arrOf s).extract sa sb
  let ys := (arrOf s).extract sb (sb + nb)
  let r ← if na ≤ nb then mergeLo' xs ys else mergeHi' xs ys
  ma2 sa r) := rfl
theorem mergeAt_ok (C : Cmp prog w A s κ rk D) (hD : ∀ x ∈ l₀, D x) {st : SortSt} (B : SB κ l₀ st) {i sa na pw sb nb pw2 : Nat} (hi : (pendingOf st)[i]? = some (sa, na, pw)) (hj : (pendingOf st)[i + 1]? = some (sb, nb, pw2)) (e1 : sb = sa + na) (n1 : 1 ≤ na) (n2 : 1 ≤ nb) (hz : sb + nb ≤ l₀.length)
    (so1 : Sor rk (arrOf st) sa sb) (so2 : Sor rk (arrOf st) sb (sb + nb)) {Q : Bool → SortSt → Prop}
    (h : ∀ st', SB κ l₀ st' → pendingOf st' = ((pendingOf st).setIfInBounds i (sa, na + nb, pw)).eraseIdxIfInBounds (i + 1) → Sor rk (arrOf st') sa (sb + nb) → Swap sa (sb + nb) (arrOf st) (arrOf st') → Q true st') : wpS (model prog w) A E s (mergeAt' i) Q st := by
  have hs := B.size
  have gt : ∀ k, k < l₀.length → ∃ x, (arrOf st)[k]? = some x ∧ D x := fun k hk => by
    obtain ⟨x, hx, mx⟩ := B.get hk
    exact ⟨x, hx, hD x mx⟩
  rw [mergeAt'_eq]
  refine wpS_bind (wpS_get ?_)
  rw [hi, hj]
  dsimp only
  refine wpS_bind (wpS_set ?_)
  have B0 : SB κ l₀ (setPending st (((pendingOf st).setIfInBounds i (sa, na + nb, pw)).eraseIdxIfInBounds (i + 1))) := ⟨B.k, B.f, B.p⟩
  obtain ⟨x1, hx1, dx1⟩ := gt sb (by omega)
  refine wpS_bind (elem_ok hx1 ?_)
  refine wpS_bind (gallopR_ok (bs := sa) (n := na) (hint := 0) C B0.k dx1 (fun i hi => gt (sa + i) (by omega)) (fun i j x y hij hj hx hy => ?_) (by omega) fun k hk1 a1 a2 => ?_)
  · have := so1 (sa + i) (sa + j) (by omega) (by omega) (by omega)
    rw [Rk_some hx, Rk_some hy] at this; exact this
  dsimp only
  have r1 : Rk rk (arrOf st) sb = rk x1 := Rk_some hx1
  have b1 : ∀ m, sa ≤ m → m < sa + k → Rk rk (arrOf st) m ≤ Rk rk (arrOf st) sb := fun m p q => by
    obtain ⟨x, hx, _⟩ := gt m (by omega)
    rw [r1, Rk_some hx]
    refine a1 (m - sa) x (by omega) ?_
    rw [show sa + (m - sa) = m by omega]; exact hx
  by_cases c0 : na - k = 0
  · rw [if_pos (beq_iff_eq.mpr c0)]
    refine wpS_pure (h _ B0 rfl (fun i j a b c => ?_) ⟨fun _ _ => rfl⟩)
    show Rk rk (arrOf st) i ≤ Rk rk (arrOf st) j
    by_cases cj : j < sb
    · exact so1 i j a b cj
    · by_cases ci : i < sb
      · have := b1 i a (by omega)
        have := so2 sb j (Nat.le_refl _) (by omega) c
        omega
      · exact so2 i j (by omega) b c
  rw [if_neg (fun z => c0 (beq_iff_eq.mp z))]
  have el : sa + k + (na - k) - 1 = sb - 1 := by omega
  obtain ⟨x2, hx2, dx2⟩ := gt (sb - 1) (by omega)
  rw [el]
  refine wpS_bind (elem_ok hx2 ?_)
  refine wpS_bind (gallopL_ok (bs := sb) (n := nb) (hint := nb - 1) C B0.k dx2 (fun i hi => gt (sb + i) (by omega)) (fun i j x y hij hj hx hy => ?_) (by omega) fun k2 hk2 c1 c2 => ?_)
  · have := so2 (sb + i) (sb + j) (by omega) (by omega) (by omega)
    rw [Rk_some hx, Rk_some hy] at this; exact this
  dsimp only
  have r2 : Rk rk (arrOf st) (sb - 1) = rk x2 := Rk_some hx2
  have b2 : ∀ m, sb + k2 ≤ m → m < sb + nb → Rk rk (arrOf st) (sb - 1) ≤ Rk rk (arrOf st) m := fun m p q => by
    obtain ⟨x, hx, _⟩ := gt m (by omega)
    rw [r2, Rk_some hx]
    refine c2 (m - sb) x (by omega) (by omega) ?_
    rw [show sb + (m - sb) = m by omega]; exact hx
  by_cases c3 : k2 = 0
  · rw [if_pos (beq_iff_eq.mpr c3)]
    refine wpS_pure (h _ B0 rfl (fun i j a b c => ?_) ⟨fun _ _ => rfl⟩)
    show Rk rk (arrOf st) i ≤ Rk rk (arrOf st) j
    by_cases cj : j < sb
    · exact so1 i j a b cj
    · by_cases ci : i < sb
      · have := so1 i (sb - 1) a (by omega) (by omega)
        have := b2 j (by omega) c
        omega
      · exact so2 i j (by omega) b c
  rw [if_neg (fun z => c3 (beq_iff_eq.mp z))]
  have sx : ((arrOf st).extract (sa + k) sb).size = na - k := by rw [Array.size_extract]; omega
  have sy : ((arrOf st).extract sb (sb + k2)).size = k2 := by rw [Array.size_extract]; omega
  have dX : ∀ x ∈ ((arrOf st).extract (sa + k) sb).toList, D x := fun x hx => by
    obtain ⟨m, _, _, e⟩ := ext_mem (by omega) hx
    obtain ⟨x', e', d'⟩ := gt m (by omega)
    rw [e] at e'; cases e'; exact d'
  have dY : ∀ x ∈ ((arrOf st).extract sb (sb + k2)).toList, D x := fun x hx => by
    obtain ⟨m, _, _, e⟩ := ext_mem (by omega) hx
    obtain ⟨x', e', d'⟩ := gt m (by omega)
    rw [e] at e'; cases e'; exact d'
  have uX := ext_up (rk := rk) (xs := arrOf st) (lo := sa + k) (hi := sb) (by omega) fun i j a b c => so1 i j (by omega) b c
  have uY := ext_up (rk := rk) (xs := arrOf st) (lo := sb) (hi := sb + k2) (by omega) fun i j a b c => so2 i j a b (by omega)
  have hF : ∀ y, ((arrOf st).extract sb (sb + k2))[0]? = some y → ∀ x ∈ ((arrOf st).extract (sa + k) sb).toList, rk y ≤ rk x := fun y hy x hx => by
    rw [ext_get (by omega) (by omega), Nat.add_zero, hx1] at hy
    cases hy
    obtain ⟨m, m1, m2, e⟩ := ext_mem (by omega) hx
    have := a2 (m - sa) x (by omega) (by omega) (by rw [show sa + (m - sa) = m by omega]; exact e)
    omega
  have hL : ∀ x, ((arrOf st).extract (sa + k) sb)[((arrOf st).extract (sa + k) sb).size - 1]? = some x → ∀ y ∈ ((arrOf st).extract sb (sb + k2)).toList, rk y ≤ rk x := fun x hx y hy => by
    rw [sx, ext_get (by omega) (by omega), show sa + k + (na - k - 1) = sb - 1 by omega, hx2] at hx
    cases hx
    obtain ⟨m, m1, m2, e⟩ := ext_mem (by omega) hy
    have := c1 (m - sb) y (by omega) (by rw [show sb + (m - sb) = m by omega]; exact e)
    omega
  have fin : ∀ (r : Array Keyed) (st2 : SortSt), Keep (setPending st (((pendingOf st).setIfInBounds i (sa, na + nb, pw)).eraseIdxIfInBounds (i + 1))) st2 → Done rk ((arrOf st).extract (sa + k) sb) ((arrOf st).extract sb (sb + k2)) r → wpS (model prog w) A E s (ma2 (sa + k) r) Q st2 := by
    intro r st2 kp d
    unfold ma2
    refine wpS_bind (wpS_modify (wpS_bind (wpS_get ?_)))
    have hl : r.toList.length = (na - k) + k2 := by
      have := d.1.length_eq
      rw [List.length_append, Array.length_toList, Array.length_toList, Array.length_toList, sx, sy] at this
      rw [Array.length_toList]; exact this
    have ea : arrOf st2 = arrOf st := kp.a
    have ey := put_toList (sa := sa + k) r.toList 0 (arrOf st2) (by rw [ea]; omega)
    rw [Nat.add_zero, ea] at ey
    obtain ⟨p1, p2, p3⟩ := put_back (rk := rk) (sa := sa) (m := sa + k) (sb := sb) (e := sb + k2) (e' := sb + nb) (by omega) (by omega) (by omega) (by omega) (by omega) so1 so2 b1 b2 d ey
    have ef : failedOf st2 = none := kp.f.trans B.f
    rw [show (failedOf st2).isNone = true by rw [ef]; rfl]
    exact wpS_pure (h _ ⟨kp.k.trans B.k, ef, by rw [← ea] at p1; exact p1.trans (by rw [ea]; exact B.p)⟩ kp.p (by rw [← ea] at p2; exact p2) (by
      have := p3
      rw [← ea] at this ⊢
      exact this))
  by_cases c : na - k ≤ k2
  · rw [if_pos c]
    exact wpS_bind (mergeLo_ok C B0.k dX dY uX uY (by omega) (by omega) hF hL fun r st' kp d => fin r st' kp d)
  · rw [if_neg c]
    exact wpS_bind (mergeHi_ok C B0.k dX dY uX uY (by omega) (by omega) hF hL fun r st' kp d => fin r st' kp d)
end
end TS
namespace TS
open PySem PyProof.Rows
def Chain (rk : Keyed → Int) (xs : Array Keyed) : List (Nat × Nat × Nat) → Nat → Nat → Prop
  | [], a, b => a = b
  | e :: r, a, b => e.1 = a ∧ 1 ≤ e.2.1 ∧ Sor rk xs e.1 (e.1 + e.2.1) ∧ Chain rk xs r (e.1 + e.2.1) b
section
variable {rk : Keyed → Int}
theorem Sor.congr {xs ys : Array Keyed} {lo hi : Nat} (so : Sor rk xs lo hi) (h : ∀ k, lo ≤ k → k < hi → ys[k]? = xs[k]?) : Sor rk ys lo hi := fun i j a b c => by
  rw [Rk_congr (h i a (by omega)), Rk_congr (h j (by omega) c)]; exact so i j a b c
theorem Chain.le {xs : Array Keyed} : ∀ {p : List (Nat × Nat × Nat)} {a b : Nat}, Chain rk xs p a b → a + p.length ≤ b
  | [], a, b, h => by have : a = b := h; simp; omega
  | e :: r, a, b, h => by
    obtain ⟨h1, h2, _, h4⟩ := h
    have := Chain.le h4
    rw [List.length_cons]; omega
theorem Chain.congr {xs ys : Array Keyed} : ∀ {p : List (Nat × Nat × Nat)} {a b : Nat}, Chain rk xs p a b → (∀ k, a ≤ k → k < b → ys[k]? = xs[k]?) → Chain rk ys p a b
  | [], a, b, h, _ => h
  | e :: r, a, b, h, hk => by
    obtain ⟨h1, h2, h3, h4⟩ := h
    have := Chain.le h4
    exact ⟨h1, h2, h3.congr fun k u v => hk k (by omega) (by omega), Chain.congr h4 fun k u v => hk k (by omega) v⟩
theorem Chain.snoc {xs : Array Keyed} : ∀ {p : List (Nat × Nat × Nat)} {a b n w : Nat}, Chain rk xs p a b → 1 ≤ n → Sor rk xs b (b + n) → Chain rk xs (p ++ [(b, n, w)]) a (b + n)
  | [], a, b, n, w, h, h1, so => by
    have h : a = b := h
    subst h
    exact ⟨rfl, h1, so, rfl⟩
  | e :: r, a, b, n, w, h, h1, so => by
    obtain ⟨g1, g2, g3, g4⟩ := h
    exact ⟨g1, g2, g3, Chain.snoc g4 h1 so⟩
theorem Chain.like {xs : Array Keyed} : ∀ {p q : List (Nat × Nat × Nat)} {a b : Nat}, Chain rk xs p a b → q.map (fun e => (e.1, e.2.1)) = p.map (fun e => (e.1, e.2.1)) → Chain rk xs q a b
  | [], q, a, b, h, e => by
    have : q = [] := by simpa using e
    rw [this]; exact h
  | x :: r, q, a, b, h, e => by
    cases q with
    | nil => simp at e
    | cons y q =>
      simp only [List.map_cons, List.cons.injEq, Prod.mk.injEq] at e
      obtain ⟨⟨e1, e2⟩, e3⟩ := e
      obtain ⟨g1, g2, g3, g4⟩ := h
      refine ⟨by rw [e1]; exact g1, by rw [e2]; exact g2, by rw [e1, e2]; exact g3, ?_⟩
      rw [e1, e2]
      exact Chain.like g4 e3
theorem Chain.at {xs : Array Keyed} : ∀ {p : List (Nat × Nat × Nat)} {a b : Nat} {i : Nat} {x y : Nat × Nat × Nat}, Chain rk xs p a b → p[i]? = some x → p[i + 1]? = some y →
    y.1 = x.1 + x.2.1 ∧ 1 ≤ x.2.1 ∧ 1 ≤ y.2.1 ∧ a ≤ x.1 ∧ y.1 + y.2.1 ≤ b ∧ Sor rk xs x.1 y.1 ∧ Sor rk xs y.1 (y.1 + y.2.1)
  | [], a, b, i, x, y, h, hx, _ => by simp at hx
  | e :: r, a, b, 0, x, y, h, hx, hy => by
    obtain ⟨g1, g2, g3, g4⟩ := h
    have hx : e = x := by simpa using hx
    subst hx
    cases r with
    | nil => simp at hy
    | cons f r =>
      have hy : f = y := by simpa using hy
      subst hy
      obtain ⟨k1, k2, k3, k4⟩ := g4
      have := Chain.le k4
      exact ⟨k1, g2, k2, by omega, by omega, by rw [k1]; exact g3, k3⟩
  | e :: r, a, b, i + 1, x, y, h, hx, hy => by
    obtain ⟨g1, g2, g3, g4⟩ := h
    obtain ⟨k1, k2, k3, k4, k5⟩ := Chain.at g4 (by simpa using hx) (by simpa using hy)
    exact ⟨k1, k2, k3, by omega, k5⟩
theorem Chain.merge {xs ys : Array Keyed} : ∀ {p : List (Nat × Nat × Nat)} {a b : Nat} {i : Nat} {x y : Nat × Nat × Nat}, Chain rk xs p a b → p[i]? = some x → p[i + 1]? = some y → Sor rk ys x.1 (y.1 + y.2.1) → Swap x.1 (y.1 + y.2.1) xs ys →
    Chain rk ys ((p.set i (x.1, x.2.1 + y.2.1, x.2.2)).eraseIdx (i + 1)) a b
  | [], a, b, i, x, y, h, hx, _, _, _ => by simp at hx
  | e :: r, a, b, 0, x, y, h, hx, hy, so, sw => by
    obtain ⟨g1, g2, g3, g4⟩ := h
    have hx : e = x := by simpa using hx
    subst hx
    cases r with
    | nil => simp at hy
    | cons f r =>
      have hy : f = y := by simpa using hy
      subst hy
      obtain ⟨k1, k2, k3, k4⟩ := g4
      have e2 : e.1 + (e.2.1 + f.2.1) = f.1 + f.2.1 := by omega
      refine ⟨g1, by show 1 ≤ e.2.1 + f.2.1; omega, by show Sor rk ys e.1 (e.1 + (e.2.1 + f.2.1)); rw [e2]; exact so, ?_⟩
      show Chain rk ys r (e.1 + (e.2.1 + f.2.1)) b
      rw [e2]
      exact k4.congr fun k u v => sw.o k (.inr u)
  | e :: r, a, b, i + 1, x, y, h, hx, hy, so, sw => by
    obtain ⟨g1, g2, g3, g4⟩ := h
    have hx : r[i]? = some x := by simpa using hx
    have hy : r[i + 1]? = some y := by simpa using hy
    have ca := Chain.at g4 hx hy
    exact ⟨g1, g2, g3.congr fun k u v => sw.o k (.inl (by omega)), Chain.merge g4 hx hy so sw⟩
end
section
variable {prog : Program} {w : World} {A : Around} {E : Value → Shared → Prop} {s : Shared} {κ : SortKind} {rk : Keyed → Int} {D : Keyed → Prop} {l₀ : List Keyed}
theorem step_ok (C : Cmp prog w A s κ rk D) (hD : ∀ x ∈ l₀, D x) {st : SortSt} (B : SB κ l₀ st) {lo i : Nat} (ch : Chain rk (arrOf st) (pendingOf st).toList 0 lo) (hlo : lo ≤ l₀.length) (hi : i + 1 < (pendingOf st).size) {Q : Bool → SortSt → Prop}
    (h : ∀ st', SB κ l₀ st' → Chain rk (arrOf st') (pendingOf st').toList 0 lo → (pendingOf st').size + 1 = (pendingOf st).size → (∀ k, lo ≤ k → (arrOf st')[k]? = (arrOf st)[k]?) → Q true st') : wpS (model prog w) A E s (mergeAt' i) Q st := by
  have h1 : (pendingOf st)[i]? = some (pendingOf st)[i] := Array.getElem?_eq_getElem (by omega)
  have h2 : (pendingOf st)[i + 1]? = some (pendingOf st)[i + 1] := Array.getElem?_eq_getElem hi
  generalize (pendingOf st)[i] = x at h1
  generalize (pendingOf st)[i + 1] = y at h2
  have l1 : (pendingOf st).toList[i]? = some x := by rw [Array.getElem?_toList]; exact h1
  have l2 : (pendingOf st).toList[i + 1]? = some y := by rw [Array.getElem?_toList]; exact h2
  obtain ⟨k1, k2, k3, k4, k5, k6, k7⟩ := ch.at l1 l2
  refine mergeAt_ok C hD B (sa := x.1) (na := x.2.1) (pw := x.2.2) (sb := y.1) (nb := y.2.1) (pw2 := y.2.2) h1 h2 k1 k2 k3 (by omega) k6 k7 fun st' B' ep so sw => ?_
  refine h st' B' ?_ ?_ fun k hk => sw.o k (.inr (by omega))
  · have := ch.merge l1 l2 so sw
    rw [ep, Array.toList_eraseIdxIfInBounds, Array.toList_setIfInBounds]
    exact this
  · rw [← Array.length_toList, ep, Array.toList_eraseIdxIfInBounds, Array.toList_setIfInBounds, List.length_eraseIdx_of_lt (by rw [List.length_set, Array.length_toList]; exact hi), List.length_set, Array.length_toList]
    omega
theorem sortRuns_ok (C : Cmp prog w A s κ rk D) (hD : ∀ x ∈ l₀, D x) {st : SortSt} (B : SB κ l₀ st) (h0 : pendingOf st = #[]) {Q : Unit → SortSt → Prop}
    (h : ∀ st', SB κ l₀ st' → Sor rk (arrOf st') 0 l₀.length → Q () st') : wpS (model prog w) A E s sortRuns' Q st := by
  have hs := B.size
  rw [sortRuns'_eq]
  refine wpS_bind (wpS_get ?_)
  have hs' : (arrOf st).size = l₀.length := hs
  dsimp only
  rw [hs']
  refine wpS_bind (wpS_mono (wpS_forRange (I := fun x c st' => ∃ lo, c = (none, lo) ∧ x ≤ lo ∧ lo ≤ l₀.length ∧ SB κ l₀ st' ∧ Chain rk (arrOf st') (pendingOf st').toList 0 lo)
    (Q := fun c st' => c = (none, l₀.length) ∧ SB κ l₀ st' ∧ Chain rk (arrOf st') (pendingOf st').toList 0 l₀.length) ?_ ?_ ⟨0, rfl, Nat.le_refl _, Nat.zero_le _, B, by rw [h0]; rfl⟩) ?_)
  · rintro x c st1 _ hx ⟨lo, rfl, g1, g2, B1, ch⟩
    dsimp only
    by_cases c : lo ≥ l₀.length
    · rw [if_pos c]
      have e : lo = l₀.length := by omega
      subst e
      exact wpS_pure ⟨rfl, B1, ch⟩
    rw [if_neg c]
    refine wpS_bind (countRun_ok C hD B1 (by omega) (by omega) fun n₀ st2 B2 n1₀ n2₀ so2 f2 => ?_)
    dsimp only
    have ch2 : Chain rk (arrOf st2) (pendingOf st2).toList 0 lo := by rw [f2.p]; exact ch.congr fun k _ v => f2.o k v
    by_cases c2 : n₀ < minRun' l₀.length l₀.length 0
    rw [if_pos c2]
    refine wpS_bind (wpS_lift (wpAny_rule ⟨rfl, ?_⟩))
    obtain ⟨n, en⟩ : ∃ n, min (l₀.length - lo) (minRun' l₀.length l₀.length 0) = n := ⟨_, rfl⟩
    rw [en]
    refine wpS_bind (binarySort_ok C hD B2 (by omega) n1₀ (by omega) so2 fun st3 B3 so3 f3 => ?_)
    rw [if_neg (by decide)]
    have n1 : 1 ≤ n := by omega
    have n2 : lo + n ≤ l₀.length := by omega
    have ch3 : Chain rk (arrOf st3) (pendingOf st3).toList 0 lo := by rw [f3.p]; exact ch2.congr fun k _ v => f3.o k v
    rotate_left
    rw [if_neg c2]
    obtain ⟨n, en⟩ : ∃ n, n₀ = n := ⟨_, rfl⟩
    obtain ⟨st3, e3⟩ : ∃ st3, st2 = st3 := ⟨_, rfl⟩
    rw [en]
    rw [en] at n1₀ n2₀ so2
    rw [e3]
    rw [e3] at B2 so2 ch2
    have B3 := B2
    have n1 : 1 ≤ n := n1₀
    have n2 : lo + n ≤ l₀.length := by omega
    have so3 := so2
    have ch3 := ch2
    all_goals
      refine wpS_bind (wpS_get ?_)
      have push : ∀ st4, SB κ l₀ st4 → Sor rk (arrOf st4) lo (lo + n) → Chain rk (arrOf st4) (pendingOf st4).toList 0 lo → ∃ lo', lo + n = lo' ∧ x + 1 ≤ lo' ∧ lo' ≤ l₀.length ∧ SB κ l₀ (setPending st4 ((pendingOf st4).push (lo, n, 0))) ∧ Chain rk (arrOf (setPending st4 ((pendingOf st4).push (lo, n, 0)))) (pendingOf (setPending st4 ((pendingOf st4).push (lo, n, 0)))).toList 0 lo' := fun st4 B4 so4 ch4 => by
        refine ⟨lo + n, rfl, by omega, n2, ⟨B4.k, B4.f, B4.p⟩, ?_⟩
        show Chain rk (arrOf st4) ((pendingOf st4).push (lo, n, 0)).toList 0 (lo + n)
        rw [Array.toList_push]
        exact ch4.snoc n1 so4
      cases eb : (pendingOf st3).back? with
      | none =>
        dsimp only
        obtain ⟨lo', e1, e2⟩ := push st3 B3 so3 ch3
        exact wpS_bind (wpS_modify (wpS_pure ⟨lo', by rw [e1], e2⟩))
      | some z =>
        obtain ⟨z1, z2, z3⟩ := z
        dsimp only
        refine wpS_bind (wpS_mono (wpS_forRange (I := fun x c st' => c = (none, ()) ∧ SB κ l₀ st' ∧ Sor rk (arrOf st') lo (lo + n) ∧ Chain rk (arrOf st') (pendingOf st').toList 0 lo)
          (Q := fun c st' => c = (none, ()) ∧ SB κ l₀ st' ∧ Sor rk (arrOf st') lo (lo + n) ∧ Chain rk (arrOf st') (pendingOf st').toList 0 lo) ?_ (fun _ _ z => z) ⟨rfl, B3, so3, ch3⟩) ?_)
        · rintro y c st4 _ hy ⟨rfl, B4, so4, ch4⟩
          refine wpS_bind (wpS_get ?_)
          by_cases c4 : (pendingOf st4).size > 1
          · have e4 : (if (pendingOf st4).size > 1 then (pendingOf st4)[(pendingOf st4).size - 2]? else none) = some (pendingOf st4)[(pendingOf st4).size - 2] := by
              rw [if_pos c4]; exact Array.getElem?_eq_getElem (by omega)
            generalize (pendingOf st4)[(pendingOf st4).size - 2] = v at e4
            obtain ⟨v1, v2, v3⟩ := v
            rw [e4]
            dsimp only
            by_cases c5 : v3 ≤ power' l₀.length (2 * z1 + z2) (2 * z1 + z2 + z2 + n) l₀.length
            · rw [if_pos c5]; exact wpS_pure ⟨rfl, B4, so4, ch4⟩
            · rw [if_neg c5]
              refine wpS_bind (step_ok C hD B4 ch4 g2 (show (pendingOf st4).size - 2 + 1 < (pendingOf st4).size by omega) fun st5 B5 ch5 _ o5 => ?_)
              rw [if_neg (by decide)]
              exact wpS_pure ⟨rfl, B5, so4.congr fun k u _ => o5 k u, ch5⟩
          · have e4 : (if (pendingOf st4).size > 1 then (pendingOf st4)[(pendingOf st4).size - 2]? else none) = none := if_neg c4
            rw [e4]
            exact wpS_pure ⟨rfl, B4, so4, ch4⟩
        · rintro c st4 ⟨rfl, B4, so4, ch4⟩
          dsimp only
          refine wpS_bind (wpS_modify ?_)
          have B5 : SB κ l₀ (setPending st4 ((pendingOf st4).modify ((pendingOf st4).size - 1) fun x => (x.1, x.2.1, power' l₀.length (2 * z1 + z2) (2 * z1 + z2 + z2 + n) l₀.length))) := ⟨B4.k, B4.f, B4.p⟩
          have ch5 : Chain rk (arrOf st4) ((pendingOf st4).modify ((pendingOf st4).size - 1) fun x => (x.1, x.2.1, power' l₀.length (2 * z1 + z2) (2 * z1 + z2 + z2 + n) l₀.length)).toList 0 lo := by
            refine ch4.like ?_
            apply List.ext_getElem?
            intro k
            rw [List.getElem?_map, List.getElem?_map, Array.getElem?_toList, Array.getElem?_toList, Array.getElem?_modify]
            split
            · cases (pendingOf st4)[k]? with
              | none => rfl
              | some v => rfl
            · rfl
          obtain ⟨lo', e1, e2⟩ := push _ B5 so4 ch5
          exact wpS_bind (wpS_modify (wpS_pure ⟨lo', by rw [e1], e2⟩))
  · rintro c st1 ⟨lo, rfl, g1, g2, B1, ch⟩
    have e : lo = l₀.length := by omega
    subst e
    exact ⟨rfl, B1, ch⟩
  rintro c st1 ⟨rfl, B1, ch1⟩
  dsimp only
  refine wpS_bind (wpS_mono (wpS_forRange (I := fun x c st' => c = (none, ()) ∧ SB κ l₀ st' ∧ Chain rk (arrOf st') (pendingOf st').toList 0 l₀.length ∧ (pendingOf st').size + x ≤ l₀.length)
    (Q := fun c st' => c = (none, ()) ∧ SB κ l₀ st' ∧ Chain rk (arrOf st') (pendingOf st').toList 0 l₀.length ∧ (pendingOf st').size ≤ 1) ?_ ?_ ⟨rfl, B1, ch1, by have := ch1.le; rw [Array.length_toList] at this; omega⟩) ?_)
  · rintro x c st2 _ hx ⟨rfl, B2, ch2, hz⟩
    refine wpS_bind (wpS_get ?_)
    by_cases c2 : (pendingOf st2).size ≤ 1
    · rw [if_pos c2]; exact wpS_pure ⟨rfl, B2, ch2, c2⟩
    rw [if_neg c2]
    refine wpS_bind (step_ok C hD B2 ch2 (Nat.le_refl _) ?_ fun st3 B3 ch3 e3 _ => ?_)
    · have key : ∀ b : Bool, (if b = true then (pendingOf st2).size - 2 - 1 else (pendingOf st2).size - 2) + 1 < (pendingOf st2).size := fun b => by split <;> omega
      exact key _
    · rw [if_neg (by decide)]
      exact wpS_pure ⟨rfl, B3, ch3, by omega⟩
  · rintro c st2 ⟨rfl, B2, ch2, hz⟩
    exact ⟨rfl, B2, ch2, by omega⟩
  rintro c st2 ⟨rfl, B2, ch2, hz⟩
  refine wpS_pure (h st2 B2 ?_)
  have hl : (pendingOf st2).toList.length ≤ 1 := by rw [Array.length_toList]; exact hz
  generalize (pendingOf st2).toList = p at ch2 hl
  match p, ch2, hl with
  | [], e, _ =>
    have e : 0 = l₀.length := e
    intro i j a b c
    omega
  | [z], e, _ =>
    obtain ⟨e1, e2, e3, e4⟩ := e
    have e4 : z.1 + z.2.1 = l₀.length := e4
    rw [← e4, e1, Nat.zero_add]
    rw [e1, Nat.zero_add] at e3
    exact e3
  | _ :: _ :: _, _, hl => exact absurd hl (by simp)
end
end TS
namespace TS
open PySem PyProof.Rows
section
variable {prog : Program} {w : World} {A : Around} {E : Value → Shared → Prop} {s : Shared} {κ : SortKind} {rk : Keyed → Int}
abbrev Grow (h h' : Heap) : Prop := ∀ b o, h.get? b = some o → h'.get? b = some o
structure Sorts (prog : Program) (w : World) (s : Shared) (κ : SortKind) (rk : Keyed → Int) (vs : List Value) : Prop where
  kd : 2 ≤ vs.length → ∀ (A : Around) (h' : Heap), (∀ b o, s.heap.get? b = some o → o.cls ≠ .type "list" → h'.get? b = some o) → ∀ (E : Value → Shared → Prop) (Q : SortKind → Shared → Prop), Q κ { s with heap := h' } → wpAny (model prog w) A (keyKind' vs.toArray) Q E { s with heap := h' }
  cm : ∀ (A : Around) (h' : Heap), (∀ b o, s.heap.get? b = some o → o.cls ≠ .type "list" → h'.get? b = some o) → Cmp prog w A { s with heap := h' } κ rk fun p => p ∈ vs.zip vs
theorem zip_mem {vs : List Value} {p : Keyed} (h : p ∈ vs.zip vs) : p = (p.2, p.2) ∧ p.2 ∈ vs := by
  induction vs with
  | nil => simp at h
  | cons v r ih =>
    rcases List.mem_cons.mp h with e | h
    · subst e; exact ⟨rfl, List.mem_cons_self⟩
    · exact ⟨(ih h).1, List.mem_cons_of_mem _ (ih h).2⟩
theorem zip_snd (vs : List Value) : (vs.zip vs).map (·.2) = vs := by
  induction vs with
  | nil => rfl
  | cons v r ih => rw [List.zip_cons_cons, List.map_cons, ih]
theorem out_ok {vs : List Value} {st : SortSt} (B : (arrOf st).toList.Perm (vs.zip vs)) (so : Sor rk (arrOf st) 0 (vs.zip vs).length) : ((arrOf st).map (·.2)).toList.Perm vs ∧ ((arrOf st).map (·.2)).toList.Pairwise (fun u v => rk (u, u) ≤ rk (v, v)) := by
  have hl : (arrOf st).toList.length = (vs.zip vs).length := B.length_eq
  refine ⟨?_, ?_⟩
  · rw [Array.toList_map]
    have := B.map (·.2)
    rw [zip_snd] at this; exact this
  · rw [Array.toList_map, List.pairwise_map]
    refine List.pairwise_iff_getElem.mpr fun i j hi hj hij => ?_
    have a1 : (arrOf st)[i]? = some (arrOf st).toList[i] := by rw [← Array.getElem?_toList]; exact List.getElem?_eq_getElem hi
    have a2 : (arrOf st)[j]? = some (arrOf st).toList[j] := by rw [← Array.getElem?_toList]; exact List.getElem?_eq_getElem hj
    have := so i j (Nat.zero_le _) (Nat.le_of_lt hij) (by rw [← hl]; exact hj)
    rw [Rk_some a1, Rk_some a2] at this
    have e1 := (zip_mem (B.mem_iff.mp (List.getElem_mem hi))).1
    have e2 := (zip_mem (B.mem_iff.mp (List.getElem_mem hj))).1
    rw [e1, e2] at this
    exact this
theorem list_sort_ok {a : Addr} {vs : List Value} {n : Nat} {P : PySem.Fin → Shared → Prop} (S : Sorts prog w s κ rk vs) (ho : s.heap.get? a = some (seqObj "list" vs.toArray n)) (hz : vs.length ≤ 1000000)
    (h : ∀ out : Array Value, out.toList.Perm vs → out.toList.Pairwise (fun u v => rk (u, u) ≤ rk (v, v)) → P (.done (.ret .none)) { s with heap := sortedHeap s.heap a vs out }) : wpAny (model prog w) A (Builtin.«list.sort» ⟨[.ref a], []⟩) P E s := by
  have ha : a < s.heap.objs.size := Heap.lt_size ho
  obtain ⟨e1, ho1⟩ : ∃ e1, (s.heap.update a (Obj.mapSeq fun _ => #[])).get? a = some (seqObj "list" #[] e1) := ⟨_, get?_update_seq ho fun _ => #[]⟩
  have zl : vs.toArray.size = vs.length := by simp
  have zm : ∀ xs : Array Keyed, xs.toList.Perm (vs.zip vs) → (xs.map (·.2)).size ≤ sizeLine + 1 := fun xs hx => by
    have := hx.length_eq
    rw [List.length_zip, Array.length_toList] at this
    rw [Array.size_map, sizeLine_eq]; omega
  rw [list_sort_plain]
  refine wpAny_bind (listItems_at ho rfl (wpAny_bind (listUpdate_at ho rfl ?_ (by rw [zl, sizeLine_eq]; omega) (by simp))))
  refine wpAny_bind (seqEpoch_at ho1 rfl (wpAny_bind (wpAny_newTuple ?_ (hsz := by rw [sizeLine_eq]; simp; omega))))
  refine wpAny_bind (wpAny_newList (wpAny_holding ?_))
  obtain ⟨h6, e6⟩ : ∃ h6, h6 = ((s.heap.update a (Obj.mapSeq fun _ => #[])).push (seqObj "tuple" vs.toArray 0)).push (seqObj "list" #[] 0) := ⟨_, rfl⟩
  have ho6 : h6.get? a = some (seqObj "list" #[] e1) := by
    rw [e6]; exact Heap.get?_push_of_some _ (Heap.get?_push_of_some _ ho1)
  have keep : ∀ b o, s.heap.get? b = some o → o.cls ≠ .type "list" → h6.get? b = some o := fun b o eb hc => by
    have hne : b ≠ a := fun z => by
      subst z; rw [ho] at eb
      cases eb; exact hc rfl
    rw [e6]
    exact Heap.get?_push_of_some _ (Heap.get?_push_of_some _ (by rw [Heap.get?_update_ne _ _ _ _ hne]; exact eb))
  have eh : ∀ out, sortedHeap s.heap a vs out = h6.update a (Obj.mapSeq fun _ => out) := fun out => by rw [e6]; rfl
  show wpAny (model prog w) A _ P E { s with heap := ((s.heap.update a (Obj.mapSeq fun _ => #[])).push (seqObj "tuple" vs.toArray 0)).push (seqObj "list" #[] 0) }
  rw [← e6]
  dsimp only
  by_cases h2 : vs.toArray.size < 2
  · rw [if_pos h2, if_pos h2]
    have fin := out_ok (rk := rk) (vs := vs) (st := SortSt.mk' general' (vs.toArray.zip vs.toArray) #[] 7 none) (by simp) (fun i j _ b c => by
      rw [List.length_zip] at c
      have : i = j := by omega
      subst this; exact Int.le_refl _)
    refine wpAny_bind (wpAny_pure ?_)
    rw [StateT.run_pure]
    refine wpAny_bind (wpAny_pure (wpAny_bind (seqEpoch_at ho6 rfl (wpAny_bind (listUpdate_at ho6 rfl ?_ (by simp) (zm _ (by simp)))))))
    simp only [bne_self_eq_false, Bool.false_eq_true, if_false]
    refine wpAny_pure ?_
    have := h _ fin.1 fin.2
    rw [eh] at this
    exact this
  · rw [if_neg h2, if_neg h2]
    refine wpAny_bind (S.kd (by omega) A h6 keep _ _ ?_)
    refine wpAny_bind (wpAny_mono (sortRuns_ok (l₀ := vs.zip vs) (st := SortSt.mk' κ (vs.toArray.zip vs.toArray) #[] 7 none) (Q := fun _ st' => SB κ (vs.zip vs) st' ∧ Sor rk (arrOf st') 0 (vs.zip vs).length) (S.cm A h6 keep) (fun _ z => z) ⟨rfl, rfl, by simp⟩ rfl fun st' B so => ⟨B, so⟩) ?_ fun _ _ z => z)
    rintro ⟨⟨⟩, st'⟩ s' ⟨rfl, B, so⟩
    have fin := out_ok B.p so
    refine wpAny_bind (seqEpoch_at ho6 rfl (wpAny_bind (listUpdate_at ho6 rfl ?_ (by simp) (zm _ B.p))))
    rw [B.f]
    simp only [bne_self_eq_false, Bool.false_eq_true, if_false]
    refine wpAny_pure ?_
    have := h _ fin.1 fin.2
    rw [eh] at this
    exact this
theorem sorted_ok {l : Addr} {vs : List Value} {Q : Value → Shared → Prop} (hl : s.heap.IsList l vs.toArray) (hz : vs.length ≤ 1000000) (S : ∀ h', Grow s.heap h' → Sorts prog w { s with heap := h' } κ rk vs)
    (h : ∀ out : Array Value, out.toList.Perm vs → out.toList.Pairwise (fun u v => rk (u, u) ≤ rk (v, v)) → Q (.ref (s.heap.objs.size + 1)) { s with heap := sortedAll s.heap vs out }) : wpAny (model prog w) A (call (.builtin "sorted") [.ref l]) Q E s := by
  refine Calls.call_function_entry kind_sorted plain_sorted entry_sorted (args_sorted1 _) ?_
  unfold Builtin.«sorted»
  refine wpAny_bind (m := checkCount "sorted" 1 1 _) (wpAny_pure (wpAny_bind (collect_list hl ?_ (by rw [sizeLine_eq]; omega))))
  refine wpAny_bind (wpAny_newList ?_ (hsz := by rw [sizeLine_eq]; omega))
  have hz1 : ((s.heap.push (seqObj "list" #[] 0)).update s.heap.objs.size (Obj.mapSeq (· ++ vs.toArray))).objs.size = s.heap.objs.size + 1 := by rw [Heap.size_update, size_push']
  obtain ⟨h1, eh⟩ : ∃ h1, h1 = ((s.heap.push (seqObj "list" #[] 0)).update s.heap.objs.size (Obj.mapSeq (· ++ vs.toArray))).push (seqObj "list" vs.toArray 0) := ⟨_, rfl⟩
  have ho : h1.get? (s.heap.objs.size + 1) = some (seqObj "list" vs.toArray 0) := by rw [eh, ← hz1]; exact Heap.get?_push_size _ rfl
  have gr : Grow s.heap h1 := fun b o e => by
    have hb := Heap.lt_size e
    rw [eh]
    refine Heap.get?_push_of_some _ ?_
    rw [Heap.get?_update_ne _ _ _ _ (Nat.ne_of_lt hb)]
    exact Heap.get?_push_of_some _ e
  show wpAny _ _ _ _ _ { s with heap := ((s.heap.push (seqObj "list" #[] 0)).update s.heap.objs.size (Obj.mapSeq (· ++ vs.toArray))).push (seqObj "list" vs.toArray 0) }
  rw [hz1, ← eh]
  refine wpAny_bind (wpAny_holding (wpAny_call_entry slot_list_sort ⟨_, ho, rfl⟩ entry_list_sort (list_sort_ok (S h1 gr) ho hz fun out a1 a2 => ⟨_, rfl, wpAny_pure ⟨_, rfl, ?_⟩⟩) (args_list_sort _)))
  have := h out a1 a2
  unfold sortedAll at this
  rw [← eh] at this
  exact this
end
end TS
namespace TS
open PySem PySem.W PyProof.Rows L2
def rank3 (N : Int) : List Int → Int
  | [x, y, z] => (x * N + y) * N + z
  | _ => 0
def Three (N : Int) (t : List Int) : Prop := ∃ x y z, t = [x, y, z] ∧ 0 ≤ x ∧ x < N ∧ 0 ≤ y ∧ y < N ∧ 0 ≤ z ∧ z < N
theorem lex_lt {N A A' z z' : Int} (hz : 0 ≤ z) (hz1 : z < N) (hz' : 0 ≤ z') (hz1' : z' < N) (h : A < A') : A * N + z < A' * N + z' := by
  have h1 : (A + 1) * N ≤ A' * N := Int.mul_le_mul_of_nonneg_right (by omega) (by omega)
  rw [Int.add_mul, Int.one_mul] at h1
  omega
theorem lex_dec {N A A' z z' : Int} (hz : 0 ≤ z) (hz1 : z < N) (hz' : 0 ≤ z') (hz1' : z' < N) : decide (A * N + z < A' * N + z') = if A = A' then decide (z < z') else decide (A < A') := by
  by_cases e : A = A'
  · subst e; rw [if_pos rfl]; apply decide_eq_decide.mpr; omega
  · rw [if_neg e]
    apply decide_eq_decide.mpr
    constructor
    · intro h
      by_cases g : A' < A
      · have := lex_lt hz' hz1' hz hz1 g; omega
      · omega
    · exact lex_lt hz hz1 hz' hz1'
def tupI3 (H : Hp) : V → List Int
  | .ref a => match H a with
    | some (.tup [.int x, .int y, .int z]) => [x, y, z]
    | _ => []
  | _ => []
def toV : Value → V
  | .ref a => .ref a
  | _ => .non
def rkT (H : Hp) (N : Int) (p : Keyed) : Int := rank3 N (tupI3 H (toV p.1))
section
variable {prog : Program} {w : World} {A : Around} {E : Value → Shared → Prop} {s : Shared}
structure Lies (H : Hp) (h : Heap) (N : Int) (v : Value) : Prop where
  ex : ∃ (a : Addr) (o : Obj) (n : Nat) (x y z : Int) (t1 t2 t3 : Tok), v = .ref a ∧ H a = some (.tup [.int x, .int y, .int z]) ∧ h.get? a = some o ∧ o.cls = .type "tuple" ∧ o.data = .seq #[.int x t1, .int y t2, .int z t3] n ∧ Three N [x, y, z]
theorem lt3 {x y z x' y' z' N : Int} {t1 t2 t3 u1 u2 u3 : Tok} {Q : Bool → Shared → Prop} (h : Three N [x, y, z]) (h' : Three N [x', y', z']) (q : Q (decide (rank3 N [x, y, z] < rank3 N [x', y', z'])) s) :
    KatLex prog w A true (decide ((#[Value.int x t1, .int y t2, .int z t3] : Array Value).size < (#[Value.int x' u1, .int y' u2, .int z' u3] : Array Value).size)) Q ((#[Value.int x t1, .int y t2, .int z t3] : Array Value).toList.zip (#[Value.int x' u1, .int y' u2, .int z' u3] : Array Value).toList) 0 s := by
  obtain ⟨_, _, _, e, a1, a2, a3, a4, a5, a6⟩ := h
  injection e with e1 e; injection e with e2 e; injection e with e3 _
  subst e1 e2 e3
  obtain ⟨_, _, _, e, b1, b2, b3, b4, b5, b6⟩ := h'
  injection e with e1 e; injection e with e2 e; injection e with e3 _
  subst e1 e2 e3
  have e : decide (rank3 N [x, y, z] < rank3 N [x', y', z']) = decide ((x * N + y) * N + z < (x' * N + y') * N + z') := rfl
  rw [e, lex_dec a5 a6 b5 b6] at q
  have key : x * N + y < x' * N + y' ↔ (if x = x' then y < y' else x < x') := by
    have := lex_dec (A := x) (A' := x') a3 a4 b3 b4
    by_cases c : x = x'
    · rw [if_pos c] at this ⊢; exact decide_eq_decide.mp this
    · rw [if_neg c] at this ⊢; exact decide_eq_decide.mp this
  refine kat_cons (wpAny_eqBool_int ?_)
  by_cases c1 : x = x'
  · subst c1
    rw [beq_self_eq_true]
    rw [if_pos rfl] at key
    refine kat_yes (kat_cons (wpAny_eqBool_int ?_))
    by_cases c2 : y = y'
    · subst c2
      rw [beq_self_eq_true]
      rw [if_pos rfl] at q
      refine kat_yes (kat_cons (wpAny_eqBool_int ?_))
      by_cases c3 : z = z'
      · subst c3
        rw [beq_self_eq_true]
        refine kat_yes (kat_nil ?_)
        rw [decide_eq_false (Int.lt_irrefl z)] at q
        exact q
      · rw [show (z == z') = false by simpa using c3]
        exact kat_no (kat_one _ _ (lt_int q))
    · rw [show (y == y') = false by simpa using c2]
      rw [if_neg (by omega), decide_eq_decide.mpr key] at q
      exact kat_no (kat_one _ _ (lt_int q))
  · rw [show (x == x') = false by simpa using c1]
    rw [if_neg c1] at key
    have hne : ¬ x * N + y = x' * N + y' := fun z => by
      rcases Int.lt_trichotomy x x' with g | g | g
      · have := lex_lt a3 a4 b3 b4 g; omega
      · exact c1 g
      · have := lex_lt b3 b4 a3 a4 g; omega
    rw [if_neg hne, decide_eq_decide.mpr key] at q
    exact kat_no (oneLt_int q)
theorem sorts_tups {H : Hp} {N : Int} {vs : List Value} (hL : ∀ v ∈ vs, Lies H s.heap N v) : Sorts prog w s (tuples' true) (rkT H N) vs := by
  refine ⟨fun h2 A h' kp E Q q => ?_, fun A h' kp => ⟨fun x y hx hy E Q q => ?_⟩⟩
  · have key : ∀ l : List Value, (∀ v ∈ l, Lies H s.heap N v) → ∃ fs : List Value, KatTups h' l fs ∧ fs.length = l.length ∧ ∀ f ∈ fs, ∃ n t, f = .int n t := by
      intro l
      induction l with
      | nil => intro _; exact ⟨[], .nil, rfl, fun f hf => by simp at hf⟩
      | cons v r ih =>
        intro hl
        obtain ⟨fs, k1, k2, k3⟩ := ih fun u hu => hl u (List.mem_cons_of_mem _ hu)
        obtain ⟨a, o, n, x, y, z, t1, t2, t3, rfl, ea, eo, ec, ed, _⟩ := (hl v List.mem_cons_self).ex
        refine ⟨.int x t1 :: fs, KatTups.cons (kp a o eo (by rw [ec]; intro z; injection z with z; exact absurd z (by decide))) ec ed rfl k1, by rw [List.length_cons, List.length_cons, k2], fun f hf => ?_⟩
        rcases List.mem_cons.mp hf with e | hf
        · exact ⟨x, t1, e⟩
        · exact k3 f hf
    obtain ⟨fs, k1, k2, k3⟩ := key vs hL
    refine kat_kind (s := { s with heap := h' }) (T := .type "int") k1 (by omega) (fun v hv => ?_) (by rfl) (by
      have e : (Value.type "int" != Value.type "tuple") = true := by decide
      rw [e]; exact q)
    obtain ⟨n, t, rfl⟩ := k3 v hv
    exact .now
  · obtain ⟨e1, m1⟩ := zip_mem hx
    obtain ⟨e2, m2⟩ := zip_mem hy
    obtain ⟨a, o, n, u1, u2, u3, t1, t2, t3, v1, ea, eo, ec, ed, th⟩ := (hL _ m1).ex
    obtain ⟨a', o', n', u1', u2', u3', t1', t2', t3', v1', ea', eo', ec', ed', th'⟩ := (hL _ m2).ex
    have hn : ∀ {o : Obj}, o.cls = .type "tuple" → o.cls ≠ .type "list" := fun h z => by rw [h] at z; injection z with z; exact absurd z (by decide)
    rw [e1, e2, v1, v1'] at q ⊢
    have q1 : rkT H N (Value.ref a, Value.ref a) = rank3 N [u1, u2, u3] := by unfold rkT tupI3 toV; simp only [ea]
    have q2 : rkT H N (Value.ref a', Value.ref a') = rank3 N [u1', u2', u3'] := by unfold rkT tupI3 toV; simp only [ea']
    rw [q1, q2] at q
    exact kat_lt (kp a o eo (hn ec)) ed (kp a' o' eo' (hn ec')) ed' (lt3 th th' q)
end
end TS
namespace L2
open PySem PySem.Spec PySem.Calls PyProof.Rows
section
variable {X : Cx}
def rSortT (K : PySem.W.Frag) : List V → Hp → VK → Prop := fun xs H Q => ∃ (p : Addr) (rs : List V) (ts : List (List Int)) (N : Int), xs = [.ref p] ∧ SqL K H p rs ∧ TL H rs ts ∧ (∀ t ∈ ts, TS.Three N t) ∧ ts.length ≤ 1000000 ∧
  ∀ (l : Addr) (rs' : List V) (ts' : List (List Int)), H l = none → TL H rs' ts' → ts'.Perm ts → ts'.Pairwise (fun a b => TS.rank3 N a ≤ TS.rank3 N b) → Q (.ref l) (upd H l (.lst rs'))
theorem tl_iff {H : Hp} : ∀ {rs : List V} {ts : List (List Int)}, TL H rs ts → (∀ t ∈ ts, ∃ x y z, t = [x, y, z]) → rs.map (TS.tupI3 H) = ts ∧ ∀ x ∈ rs, ∃ p t, x = V.ref p ∧ H p = some (.tup (t.map V.int)) ∧ t ∈ ts := by
  intro rs ts h
  unfold TL at h
  induction h with
  | nil => intro _; exact ⟨rfl, fun x hx => by simp at hx⟩
  | cons a b ih =>
    intro ht
    obtain ⟨p, rfl, hp⟩ := a
    obtain ⟨i1, i2⟩ := ih fun t hm => ht t (List.mem_cons_of_mem _ hm)
    refine ⟨?_, fun x hx => ?_⟩
    · rw [List.map_cons, i1]
      obtain ⟨x, y, z, rfl⟩ := ht _ List.mem_cons_self
      congr 1
      unfold TS.tupI3
      simp only [hp, List.map_cons, List.map_nil]
    · rcases List.mem_cons.mp hx with rfl | hx
      · exact ⟨p, _, rfl, hp, List.mem_cons_self⟩
      · obtain ⟨p', t', e1, e2, e3⟩ := i2 x hx
        exact ⟨p', t', e1, e2, List.mem_cons_of_mem _ e3⟩
theorem tl_mk {H : Hp} : ∀ {rs : List V}, (∀ x ∈ rs, ∃ p t, x = V.ref p ∧ H p = some (.tup (t.map V.int)) ∧ ∃ a b c, t = [a, b, c]) → TL H rs (rs.map (TS.tupI3 H))
  | [], _ => .nil
  | x :: r, h => by
    obtain ⟨p, t, rfl, hp, a, b, c, rfl⟩ := h x List.mem_cons_self
    refine .cons ⟨p, rfl, ?_⟩ (tl_mk fun y hy => h y (List.mem_cons_of_mem _ hy))
    have e : TS.tupI3 H (V.ref p) = [a, b, c] := by unfold TS.tupI3; simp only [hp, List.map_cons, List.map_nil]
    rw [e]; exact hp
theorem vals3 {a b c : V} {us : List Value} (r : Vals [a, b, c] us) : ∃ u v w, us = [u, v, w] ∧ RelV a u ∧ RelV b v ∧ RelV c w := by
  cases r with
  | cons r1 r =>
    cases r with
    | cons r2 r =>
      cases r with
      | cons r3 r =>
        cases r
        exact ⟨_, _, _, rfl, r1, r2, r3⟩
theorem call_sortT : CallR X (.builtin "sorted") (rSortT X.K) := by
  intro pins s σ H xs us Q I r h
  obtain ⟨p, rs, ts, N, rfl, hq, tl, hb, hz, q⟩ := h
  obtain ⟨u, rfl, rx⟩ := vals1 r
  cases rx
  obtain ⟨its, r', pl, hsz⟩ := I.list hq
  have hlen := r'.length
  have hl1 := tl.len
  obtain ⟨m1, m2⟩ := tl_iff tl fun t ht => by obtain ⟨x, y, z, e, _⟩ := hb t ht; exact ⟨x, y, z, e⟩
  have hv : its.map TS.toV = rs := by
    clear m1 hl1 hlen hq pl tl hsz
    induction r' with
    | nil => rfl
    | cons a b ih =>
      obtain ⟨p', t', rfl, _⟩ := m2 _ List.mem_cons_self
      cases a
      rw [List.map_cons, ih fun x hx => m2 x (List.mem_cons_of_mem _ hx)]; rfl
  have hL : ∀ v ∈ its, TS.Lies H s.heap N v := fun v hv' => by
    have hm : TS.toV v ∈ rs := by rw [← hv]; exact List.mem_map_of_mem hv'
    obtain ⟨a, t, e1, e2, e3⟩ := m2 _ hm
    have ev : v = .ref a := by
      cases v <;> first | (injection e1 with e1; rw [e1]) | cases e1
    obtain ⟨x, y, z, e4, _⟩ := hb t e3
    subst e4
    obtain ⟨jts, k1, k2, _⟩ := I.tuple (SqT.of e2)
    obtain ⟨o, ho, hc, n, hd⟩ := (show s.heap.IsTuple a jts.toArray from k2)
    obtain ⟨j1, j2, j3, ej, r1, r2, r3⟩ := vals3 k1
    obtain ⟨t1, rfl⟩ := r1
    obtain ⟨t2, rfl⟩ := r2
    obtain ⟨t3, rfl⟩ := r3
    subst ej
    exact ⟨a, o, n, x, y, z, t1, t2, t3, ev, e2, ho, hc, hd, hb _ e3⟩
  refine TS.sorted_ok (κ := tuples' true) (rk := TS.rkT H N) pl.isList (by omega) (fun h' gr => TS.sorts_tups fun v hv' => ?_) fun out a1 a2 => ?_
  · obtain ⟨a, o, n, x, y, z, t1, t2, t3, e1, e2, e3, e4⟩ := (hL v hv').ex
    exact ⟨a, o, n, x, y, z, t1, t2, t3, e1, e2, gr a o e3, e4⟩
  obtain ⟨e, he⟩ := sortedAll_at s.heap its out
  have hpr : (out.toList.map TS.toV).Perm rs := by rw [← hv]; exact a1.map _
  have hV : Vals (out.toList.map TS.toV) out.toList := by
    have : ∀ l : List Value, (∀ v ∈ l, v ∈ its) → Vals (l.map TS.toV) l := by
      intro l
      induction l with
      | nil => intro _; exact .nil
      | cons v r ih =>
        intro hl
        obtain ⟨a, _, _, _, _, _, _, _, _, rfl, _⟩ := (hL v (hl v List.mem_cons_self)).ex
        exact .cons rfl (ih fun u hu => hl u (List.mem_cons_of_mem _ hu))
    exact this _ fun v hv' => a1.mem_iff.mp hv'
  have hT : TL H (out.toList.map TS.toV) ((out.toList.map TS.toV).map (TS.tupI3 H)) := tl_mk fun x hx => by
    obtain ⟨a, t, e1, e2, e3⟩ := m2 x (hpr.mem_iff.mp hx)
    obtain ⟨u, v, w, e4, _⟩ := hb t e3
    exact ⟨a, t, e1, e2, u, v, w, e4⟩
  have hpt : ((out.toList.map TS.toV).map (TS.tupI3 H)).Perm ts := by rw [← m1]; exact hpr.map _
  have hpw : ((out.toList.map TS.toV).map (TS.tupI3 H)).Pairwise (fun a b => TS.rank3 N a ≤ TS.rank3 N b) := by
    rw [List.pairwise_map, List.pairwise_map]
    exact a2
  have hl2 := hpr.length_eq
  refine ⟨.ref (s.heap.objs.size + 1), _, I.laid (t' := s.toks) (fun _ _ => sortedAll_old) (Nat.le_succ _) (show ObjOk X.prog X.w _ _ _ (.lst (out.toList.map TS.toV)) from ⟨?_, out.toList, e, hV, by simpa [seqObj] using he⟩), rfl, q _ _ _ (I.hok.fresh (Nat.le_succ _)) hT hpt hpw⟩
  rw [sizeLine_eq]; omega
end
end L2
namespace L2
open PySem PySem.Spec PySem.Calls PyProof.Rows
section
variable {X : Cx} {a b c d e : Expr} {ta tb tc td te : TE} {pos : Pos}
end
end L2
namespace Law
open PySem L2 SA
theorem TL.app {H : Hp} {xs ys : List V} {ts us : List (List Int)} (h : TL H xs ts) (h' : TL H ys us) : TL H (xs ++ ys) (ts ++ us) := by
  unfold TL at h ⊢
  induction h with
  | nil => exact h'
  | cons a b ih => exact .cons a ih
def ins (a : Int) : List Int → List Int
  | [] => [a]
  | b :: r => if a ≤ b then a :: b :: r else b :: ins a r
theorem ins_perm (a : Int) : ∀ l, (ins a l).Perm (a :: l)
  | [] => List.Perm.refl _
  | b :: r => by
    unfold ins
    split
    · exact List.Perm.refl _
    · exact (List.Perm.cons b (ins_perm a r)).trans (List.Perm.swap a b r)
theorem ins_up (a : Int) : ∀ {l : List Int}, l.Pairwise (· ≤ ·) → (ins a l).Pairwise (· ≤ ·)
  | [], _ => by simp [ins]
  | b :: r, h => by
    obtain ⟨h1, h2⟩ := List.pairwise_cons.mp h
    unfold ins
    split
    · rename_i c
      refine List.pairwise_cons.mpr ⟨fun x hx => ?_, h⟩
      rcases List.mem_cons.mp hx with e | hx
      · rw [e]; exact c
      · have := h1 x hx; omega
    · rename_i c
      refine List.pairwise_cons.mpr ⟨fun x hx => ?_, ins_up a h2⟩
      rcases List.mem_cons.mp ((ins_perm a r).mem_iff.mp hx) with e | hx
      · rw [e]; omega
      · exact h1 x hx
def rise3 (a b c : Int) : List Int := ins a (ins b [c])
theorem rise3_ok (a b c : Int) : Rising a b c (rise3 a b c) := ⟨(ins_perm a _).trans (List.Perm.cons a (ins_perm b [c])), ins_up a (ins_up b (by simp))⟩
theorem rise_is {a b c : Int} {ms : List Int} (h : Rising a b c ms) : ms = rise3 a b c := rising_un h (rise3_ok a b c)
def eOf (s : Nat) (row : List Int) (n : Int) : Int := match plc row 0 n with
  | [_, q] => s + q + 1
  | _ => 0
theorem Bs.is {s : Nat} {row : List Int} {n e : Int} (b : Bs s row n e) : e = eOf s row n := by
  obtain ⟨p, hp, _, _, rfl⟩ := b
  unfold eOf
  rw [hp]
  show (s : Int) + p + n + 1 = s + (p + n) + 1
  omega
def turnT (v n e t : Int) : List Int := rise3 ((0 + t) % v) ((n + t) % v) ((e + t) % v)
def dayOf (s : Nat) (row : List Int) (x : Int) (i : Nat) : List (List Int) :=
  [turnT (6 * s + 1) (1 + (i : Int)) (eOf s row (1 + (i : Int))) (x - 0), turnT (6 * s + 1) (1 + (i : Int)) (eOf s row (1 + (i : Int))) (x - (1 + (i : Int))), turnT (6 * s + 1) (1 + (i : Int)) (eOf s row (1 + (i : Int))) (x - eOf s row (1 + (i : Int)))]
def dayTo (s : Nat) (row : List Int) (x : Int) (k : Nat) : List (List Int) := (List.range k).flatMap (dayOf s row x)
theorem dayTo_succ (s : Nat) (row : List Int) (x : Int) (k : Nat) : dayTo s row x (k + 1) = dayTo s row x k ++ dayOf s row x k := by
  unfold dayTo
  rw [List.range_succ, List.flatMap_append, List.flatMap_cons, List.flatMap_nil, List.append_nil]
theorem dayTo_len (s : Nat) (row : List Int) (x : Int) : ∀ k, (dayTo s row x k).length = 3 * k
  | 0 => rfl
  | k + 1 => by
    rw [dayTo_succ, List.length_append, dayTo_len s row x k]
    show 3 * k + 3 = 3 * (k + 1)
    omega
def GrpOf (s : Nat) (row : List Int) (x : Int) (t : List Int) : Prop := ∃ y z, Tri s row x y z ∧ Rising x y z t
theorem day_grp {s : Nat} {row : List Int} (hr : RowOf s row) {x : Int} (h0 : 0 ≤ x) (h1 : x < 6 * s + 1) {i : Nat} (hi : i < s) : ∀ t ∈ dayOf s row x i, GrpOf s row x t := by
  obtain ⟨e, b⟩ := Bs.of hr (n := 1 + (i : Int)) (by omega) (by omega)
  have ee := Bs.is b
  intro t ht
  unfold dayOf at ht
  rw [← ee] at ht
  simp only [List.mem_cons, List.not_mem_nil, or_false] at ht
  have key : ∀ u : Int, x ∈ turnT (6 * s + 1) (1 + (i : Int)) e u → GrpOf s row x (turnT (6 * s + 1) (1 + (i : Int)) e u) := fun u hu => by
    have r := rise3_ok ((0 + u) % (6 * (s : Int) + 1)) ((1 + (i : Int) + u) % (6 * s + 1)) ((e + u) % (6 * s + 1))
    have T := tri_to b u
    have hu' := r.1.mem_iff.mp hu
    simp only [List.mem_cons, List.not_mem_nil, or_false] at hu'
    rcases hu' with z | z | z
    · rw [z]; exact ⟨_, _, T, r⟩
    · rw [z]; exact ⟨_, _, T.swap, rising_perm r (List.Perm.swap _ _ _)⟩
    · rw [z]
      refine ⟨_, _, T.rot.rot, rising_perm r ?_⟩
      exact (List.Perm.cons _ (List.Perm.swap _ _ _)).trans (List.Perm.swap _ _ _)
  have mem : ∀ u : Int, ((0 + u) % (6 * (s : Int) + 1)) ∈ turnT (6 * s + 1) (1 + (i : Int)) e u ∧ ((1 + (i : Int) + u) % (6 * (s : Int) + 1)) ∈ turnT (6 * s + 1) (1 + (i : Int)) e u ∧ ((e + u) % (6 * (s : Int) + 1)) ∈ turnT (6 * s + 1) (1 + (i : Int)) e u := fun u => rising_mem (rise3_ok _ _ _)
  rcases ht with rfl | rfl | rfl
  · refine key _ ?_
    have := (mem (x - 0)).1
    rw [mod_self h0 h1] at this; exact this
  · refine key _ ?_
    have := (mem (x - (1 + (i : Int)))).2.1
    rw [mod_self h0 h1] at this; exact this
  · refine key _ ?_
    have := (mem (x - e)).2.2
    rw [mod_self h0 h1] at this; exact this
theorem dayTo_grp {s : Nat} {row : List Int} (hr : RowOf s row) {x : Int} (h0 : 0 ≤ x) (h1 : x < 6 * s + 1) : ∀ t ∈ dayTo s row x s, GrpOf s row x t := by
  intro t ht
  obtain ⟨i, hi, ht⟩ := List.mem_flatMap.mp ht
  exact day_grp hr h0 h1 (List.mem_range.mp hi) t ht
theorem grp_three {s : Nat} {row : List Int} {x : Int} {t : List Int} (h : GrpOf s row x t) : TS.Three (6 * s + 1) t := by
  obtain ⟨y, z, T, r⟩ := h
  obtain ⟨m0, m1, m2, rfl, _, _, hp⟩ := r.three
  have p1 := T.person
  have p2 := T.swap.person
  have p3 := T.rot.rot.person
  refine ⟨m0, m1, m2, rfl, ?_⟩
  rcases perm3 hp with ⟨rfl, rfl, rfl⟩ | ⟨rfl, rfl, rfl⟩ | ⟨rfl, rfl, rfl⟩ | ⟨rfl, rfl, rfl⟩ | ⟨rfl, rfl, rfl⟩ | ⟨rfl, rfl, rfl⟩ <;> omega
abbrev UpT (N : Int) (ts : List (List Int)) : Prop := ts.Pairwise fun a b => TS.rank3 N a ≤ TS.rank3 N b
def spDay : Sp := fun vs H Q _ => ∃ (a : Addr) (row : List Int) (s : Nat) (x : Int), vs = [.ref a, .int x] ∧ H a = some (.lst (row.map V.int)) ∧ 1 ≤ s ∧ s ≤ 400 ∧ RowOf s row ∧ 0 ≤ x ∧ x < 6 * s + 1 ∧
  ∀ (l : Addr) (xs : List V) (ts : List (List Int)) (H' : Hp), H l = none → H' l = some (.lst xs) → TL H' xs ts → ts.Perm (dayTo s row x s) → UpT (6 * s + 1) ts → Same H H' → Q (.ref l) H'
def grpsOf (s : Nat) (row : List Int) (i : Nat) (k : Nat) : List (List Int) := (List.range k).map fun (t : Nat) => turnT (6 * s + 1) (1 + (i : Int)) (eOf s row (1 + (i : Int))) (0 + (t : Int))
def grpsTo (s : Nat) (row : List Int) (k : Nat) : List (List Int) := (List.range k).flatMap fun i => grpsOf s row i (6 * s + 1)
theorem grpsTo_succ (s : Nat) (row : List Int) (k : Nat) : grpsTo s row (k + 1) = grpsTo s row k ++ grpsOf s row k (6 * s + 1) := by
  unfold grpsTo
  rw [List.range_succ, List.flatMap_append, List.flatMap_cons, List.flatMap_nil, List.append_nil]
theorem grpsTo_len (s : Nat) (row : List Int) : ∀ k, (grpsTo s row k).length = k * (6 * s + 1)
  | 0 => by simp [grpsTo]
  | k + 1 => by
    rw [grpsTo_succ, List.length_append, grpsTo_len s row k]
    unfold grpsOf
    rw [List.length_map, List.length_range, Nat.add_mul k 1, Nat.one_mul]
theorem grps_grp {s : Nat} {row : List Int} (hr : RowOf s row) {i : Nat} (hi : i < s) {k : Nat} : ∀ t ∈ grpsOf s row i k, ∃ x, GrpOf s row x t := by
  obtain ⟨e, b⟩ := Bs.of hr (n := 1 + (i : Int)) (by omega) (by omega)
  intro t ht
  obtain ⟨u, hu, rfl⟩ := List.mem_map.mp ht
  rw [← Bs.is b]
  exact ⟨_, _, _, tri_to b _, rise3_ok _ _ _⟩
def spGroups : Sp := fun vs H Q _ => ∃ (a : Addr) (row : List Int) (s : Nat), vs = [.ref a] ∧ H a = some (.lst (row.map V.int)) ∧ 1 ≤ s ∧ s ≤ 9 ∧ RowOf s row ∧
  ∀ (l : Addr) (xs : List V) (ts : List (List Int)) (H' : Hp), H l = none → H' l = some (.lst xs) → TL H' xs ts → ts.Perm (grpsTo s row s) → UpT (6 * s + 1) ts → Same H H' → Q (.ref l) H'
end Law
namespace Law
open PySem L2 SA
def fig (n : Int) : Str := Str.ofString (toString n)
def txtFrom (acc : Str) : List Int → Str
  | [] => acc
  | n :: r => txtFrom (acc ++ Str.ofString " " ++ fig n) r
def txt : List Int → Str
  | [] => Str.empty
  | n :: r => txtFrom (fig n) r
theorem fig_len {n : Int} (h1 : 1 ≤ n) (h2 : n ≤ 400) : (fig n).length ≤ 4 := by
  unfold fig
  rw [PySem.ofString_length]
  exact int_text_length_le10 (a := n) (k := 3) (by decide) (by show n.natAbs < 1000; omega)
theorem fig_small {n : Int} (h1 : 1 ≤ n) (h2 : n ≤ 400) : n.natAbs.log2 < 1920 := by
  have h : n.natAbs < 2 ^ 9 := by show n.natAbs < 512; omega
  by_cases h0 : n.natAbs = 0
  · omega
  · have := (Nat.log2_lt h0).mpr h; omega
def spShown : Sp := fun vs H Q _ => ∃ (a : Addr) (row : List Int) (s : Nat), vs = [.ref a] ∧ H a = some (.lst (row.map V.int)) ∧ 1 ≤ s ∧ s ≤ 400 ∧ RowOf s row ∧ ∀ H', Same H H' → Q (.str (txt row)) H'
end Law
namespace TX
open PySem PySem.Builtin PySem.Builtin.Str PySem.StrLaws
def pos (c : Nat) : List Nat → Nat → List Nat
  | [], _ => []
  | a :: r, i => if a = c then i :: pos c r (i + 1) else pos c r (i + 1)
end TX
namespace L2
open PySem PySem.Spec PySem.Calls PyProof.Rows
section
variable {X : Cx}
theorem strs_lie : ∀ {zs : List Str} {its : List Value}, Vals (zs.map V.str) its → ∃ l : List (Str × Tok), its = strValues l ∧ l.map (·.1) = zs
  | [], _, .nil => ⟨[], rfl, rfl⟩
  | z :: zs, _, .cons r t => by
    obtain ⟨tk, rfl⟩ := r
    obtain ⟨l, rfl, rfl⟩ := strs_lie t
    exact ⟨(z, tk) :: l, rfl, rfl⟩
def rJoin (K : PySem.W.Frag) : V → List V → Hp → VK → Prop := fun x vs H Q => ∃ z p zs, x = .str z ∧ vs = [.ref p] ∧ SqL K H p (zs.map V.str) ∧ JoinOk z zs = true ∧ Q (.str (Txt.join z zs)) H
theorem mt_join : MtM X "str.join" (rJoin X.K) := by
  intro pins s σ H x vs v us Q I rx rv h
  obtain ⟨z, p, zs, rfl, rfl, hq, hok, q⟩ := h
  obtain ⟨t, rfl⟩ := rx
  obtain ⟨u, rfl, ru⟩ := rv.one
  cases ru
  obtain ⟨its, r', pl, _⟩ := I.list hq
  obtain ⟨l, rfl, hl⟩ := strs_lie r'
  exact SC.join pl.isList hl hok fun t' k => ⟨.str _, H, I.kept (t' := k) fun _ _ e => e, ⟨t', rfl⟩, q⟩
end
end L2
namespace Law
open PySem L2 SA TX
open PySem.NumText (AllDigits digitsVal)
def val (p : Str) : Int := ((digitsVal p.cps.toList : Nat) : Int)
theorem join_txt : ∀ (row : List Int), row ≠ [] → Txt.join (Str.ofString " ") (row.map fig) = txt row
  | n :: r, _ => by
    have key : ∀ (r : List Int) (acc : Str), (⟨(r.map fig).foldl (fun a p => a ++ (Str.ofString " ").cps ++ p.cps) acc.cps⟩ : Str) = txtFrom acc r := by
      intro r
      induction r with
      | nil => intro acc; rfl
      | cons m r ih => intro acc; exact ih (acc ++ Str.ofString " " ++ fig m)
    exact key r (fig n)
end Law
namespace Law
open PySem L2 SA
def csOf (c0 c1 c2 c3 c4 : Addr) (j : Nat) : Addr := [c0, c1, c2, c3, c4].getD j c0
def Out (cs : Nat → Addr) (r : Option Nat) (H : Hp) (Q : VK) (E : XK) : Prop := (r = none ∧ ∀ v H', Same H H' → Q v H') ∨ ∃ j, r = some j ∧ ∀ H', Same H H' → E (.ref (cs j)) none H'
def outS (lim : Int) (such : Bool) (n : Int) : Option Nat := if 1 ≤ n ∧ n ≤ lim then (if such = true ∧ n % 4 > 1 then some 1 else none) else some 0
noncomputable def outR (row : List Int) : Option Nat := if isRowC row = true then none else some 2
noncomputable def outG (row : List Int) : Option Nat := if isRowC row = true then (if row.length ≤ 18 then none else some 0) else some 2
noncomputable def outT (row : List Int) (x y : Int) : Option Nat := if isRowC row = true then (if 0 ≤ x ∧ x < 3 * row.length + 1 ∧ 0 ≤ y ∧ y < 3 * row.length + 1 ∧ x ≠ y then none else some 3) else some 2
noncomputable def outD (row : List Int) (x : Int) : Option Nat := if isRowC row = true then (if 0 ≤ x ∧ x < 3 * row.length + 1 then none else some 3) else some 2
def spS (cs : Nat → Addr) (lim : Int) (such : Bool) : Sp := fun vs H Q E => ∃ n : Int, vs = [.int n] ∧ n.natAbs < 2 ^ 1800 ∧ Out cs (outS lim such n) H Q E
def spR (cs : Nat → Addr) : Sp := fun vs H Q E => ∃ (a : Addr) (row : List Int), vs = [.ref a] ∧ H a = some (.lst (row.map V.int)) ∧ row.length ≤ 900 ∧ Out cs (outR row) H Q E
def spGs (cs : Nat → Addr) : Sp := fun vs H Q E => ∃ (a : Addr) (row : List Int), vs = [.ref a] ∧ H a = some (.lst (row.map V.int)) ∧ row.length ≤ 900 ∧ Out cs (outG row) H Q E
def spIG (cs : Nat → Addr) : Sp := fun vs H Q E => ∃ (a p : Addr) (row : List Int) (x y z : Int), vs = [.ref a, .ref p] ∧ H a = some (.lst (row.map V.int)) ∧ row.length ≤ 900 ∧ H p = some (.tup [.int x, .int y, .int z]) ∧ Out cs (outR row) H Q E
def spT (cs : Nat → Addr) : Sp := fun vs H Q E => ∃ (a : Addr) (row : List Int) (x y : Int), vs = [.ref a, .int x, .int y] ∧ H a = some (.lst (row.map V.int)) ∧ row.length ≤ 900 ∧ x.natAbs < 2 ^ 1800 ∧ y.natAbs < 2 ^ 1800 ∧ Out cs (outT row x y) H Q E
def spD (cs : Nat → Addr) : Sp := fun vs H Q E => ∃ (a : Addr) (row : List Int) (x : Int), vs = [.ref a, .int x] ∧ H a = some (.lst (row.map V.int)) ∧ row.length ≤ 900 ∧ x.natAbs < 2 ^ 1800 ∧ Out cs (outD row x) H Q E
noncomputable def out1 (w : Nat) (n : Int) (row : List Int) : Option Nat := match w with
  | 0 => outS 400 false n
  | 1 => outS 400 false n
  | 2 => outS 400 true n
  | 3 => outS 8 false n
  | 4 => outS 5 false n
  | 5 => outR row
  | 6 => outR row
  | 7 => outR row
  | 8 => outR row
  | _ => none
noncomputable def out2 (w : Nat) (row : List Int) (x y : Int) : Option Nat := match w with
  | 9 => outG row
  | 10 => outR row
  | 11 => outT row x y
  | 12 => outT row y x
  | 13 => outD row y
  | _ => none
def sp1 (cs : Nat → Addr) : Sp := fun vs H Q E => ∃ (w : Nat) (n : Int) (a : Addr) (row : List Int), vs = [.int w, .int n, .ref a] ∧ w < 14 ∧ n.natAbs < 2 ^ 1800 ∧ H a = some (.lst (row.map V.int)) ∧ row.length ≤ 900 ∧ Out cs (out1 w n row) H Q E
def sp2 (cs : Nat → Addr) : Sp := fun vs H Q E => ∃ (w : Nat) (a : Addr) (row : List Int) (x y : Int), vs = [.int w, .ref a, .int x, .int y] ∧ w < 14 ∧ x.natAbs < 2 ^ 1800 ∧ y.natAbs < 2 ^ 1800 ∧ H a = some (.lst (row.map V.int)) ∧ row.length ≤ 900 ∧ Out cs (out2 w row x y) H Q E
def wordOf (r : Option Nat) : Str := match r with
  | none => "done"
  | some j => words.getD j ""
noncomputable def outW (w : Nat) (n : Int) (row : List Int) (x y : Int) : Option Nat := (out1 w n row).or (out2 w row x y)
def spTried : Sp := fun vs H Q _ => ∃ (w : Nat) (n : Int) (a : Addr) (row : List Int) (x y : Int), vs = [.int w, .int n, .ref a, .int x, .int y] ∧ w < 14 ∧ n.natAbs < 2 ^ 1800 ∧ x.natAbs < 2 ^ 1800 ∧ y.natAbs < 2 ^ 1800 ∧ H a = some (.lst (row.map V.int)) ∧ row.length ≤ 900 ∧
  ∀ H', Same H H' → Q (.str (wordOf (outW w n row x y))) H'
theorem out1_lt (w : Nat) (n : Int) (row : List Int) (j : Nat) (h : out1 w n row = some j) : j < 4 := by
  unfold out1 outS outR at h
  repeat' split at h
  all_goals first | (cases h; done) | (cases h; omega)
theorem out2_lt (w : Nat) (row : List Int) (x y : Int) (j : Nat) (h : out2 w row x y = some j) : j < 4 := by
  unfold out2 outR outG outT outD at h
  repeat' split at h
  all_goals first | (cases h; done) | (cases h; omega)
theorem Out.go {cs : Nat → Addr} {r : Option Nat} {H : Hp} {Q : VK} {E : XK} (hn : r = none → ∀ v H', Same H H' → Q v H') (hs : ∀ j, r = some j → ∀ H', Same H H' → E (.ref (cs j)) none H') : Out cs r H Q E := by
  cases e : r with
  | none => exact .inl ⟨rfl, hn e⟩
  | some j => exact .inr ⟨j, rfl, hs j e⟩
end Law
namespace Law
open PySem L2 SA
def wantD (d0 d1 d2 : Str) (w : Nat) : Str := if w ≤ 10 then d0 else if w ≤ 12 then d1 else d2
def wantS (bad : Bool) (n : Int) (w : Nat) : Bool := bad || ((decide ((w : Int) = 3) && decide (8 < n)) || (decide ((w : Int) = 4) && decide (5 < n)))
def wantC (bad : Bool) (n : Int) (w : Nat) : Bool := decide ((w : Int) = 2) && (!bad && decide (1 < n % 4))
def want (d0 d1 d2 : Str) (bad : Bool) (n : Int) (w : Nat) : Str := if wantC bad n w = true then "such" else if w < 5 then (if wantS bad n w = true then "size" else "done") else wantD d0 d1 d2 w
theorem wantD_at (d0 d1 d2 : Str) (w : Nat) : atI [V.str d0, V.str d1, V.str d2] ((if decide ((10 : Int) < (w : Int)) = true then 1 else 0) + (if decide ((12 : Int) < (w : Int)) = true then 1 else 0)) = some (V.str (wantD d0 d1 d2 w)) := by
  unfold wantD
  by_cases h1 : w ≤ 10
  · rw [if_pos h1, decide_eq_false (by omega), decide_eq_false (by omega)]; rfl
  · rw [if_neg h1, decide_eq_true (by omega)]
    by_cases h2 : w ≤ 12
    · rw [if_pos h2, decide_eq_false (by omega)]; rfl
    · rw [if_neg h2, decide_eq_true (by omega)]; rfl
theorem wantS_at (b : Bool) : atI [V.str "done", V.str "size"] (if b = true then 1 else 0) = some (V.str (if b = true then "size" else "done")) := by
  cases b <;> rfl
structure Asked (row : List Int) (x y : Int) (d0 d1 d2 : Str) : Prop where
  r0 : wordOf (outR row) = d0
  g0 : wordOf (outG row) = d0
  t1 : wordOf (outT row x y) = d1
  t2 : wordOf (outT row y x) = d1
  d : wordOf (outD row y) = d2
theorem want_ok {row : List Int} {n x y : Int} {bad : Bool} {d0 d1 d2 : Str} (hs : (bad = false ∧ 1 ≤ n ∧ n ≤ 12) ∨ (bad = true ∧ ¬ (1 ≤ n ∧ n ≤ 400))) (h : Asked row x y d0 d1 d2) : ∀ w, w < 14 → wordOf (outW w n row x y) = want d0 d1 d2 bad n w := by
  have small : ∀ (w : Nat) (lim : Int), w < 5 → lim ≤ 400 → wantC bad n w = false → (wantS bad n w = true ↔ ¬ (1 ≤ n ∧ n ≤ lim)) → wordOf ((outS lim false n).or none) = want d0 d1 d2 bad n w := by
    intro w lim hw hl hc hk
    unfold want outS
    rw [hc, if_neg Bool.false_ne_true, if_pos hw]
    by_cases g : 1 ≤ n ∧ n ≤ lim
    · rw [if_pos g, if_neg (show ¬ (false = true ∧ n % 4 > 1) from fun z => Bool.false_ne_true z.1), if_neg (fun z => hk.mp z g)]; rfl
    · rw [if_neg g, if_pos (hk.mpr g)]; rfl
  have rowy : ∀ (w : Nat) (d : Str) (o : Option Nat), 5 ≤ w → wordOf o = d → d = wantD d0 d1 d2 w → wordOf o = want d0 d1 d2 bad n w := by
    intro w d o hw e1 e2
    unfold want wantC
    rw [decide_eq_false (by omega), Bool.false_and, if_neg Bool.false_ne_true, if_neg (by omega), e1, e2]
  intro w hw
  have hb : bad = true ↔ ¬ (1 ≤ n ∧ n ≤ 400) := by
    rcases hs with ⟨e, h1, h2⟩ | ⟨e, h1⟩
    · rw [e]; constructor
      · intro z; cases z
      · intro z; exact absurd ⟨h1, by omega⟩ z
    · rw [e]; exact ⟨fun _ => h1, fun _ => rfl⟩
  have hb12 : bad = false → 1 ≤ n ∧ n ≤ 12 := by
    rcases hs with ⟨e, h1, h2⟩ | ⟨e, h1⟩
    · intro _; exact ⟨h1, h2⟩
    · intro z; rw [e] at z; cases z
  have cases14 : w = 0 ∨ w = 1 ∨ w = 2 ∨ w = 3 ∨ w = 4 ∨ w = 5 ∨ w = 6 ∨ w = 7 ∨ w = 8 ∨ w = 9 ∨ w = 10 ∨ w = 11 ∨ w = 12 ∨ w = 13 := by omega
  rcases cases14 with rfl | rfl | rfl | rfl | rfl | rfl | rfl | rfl | rfl | rfl | rfl | rfl | rfl | rfl
  · refine small 0 400 (by decide) (by decide) rfl ?_
    rw [← hb]; unfold wantS
    cases bad <;> simp
  · refine small 1 400 (by decide) (by decide) rfl ?_
    rw [← hb]; unfold wantS
    cases bad <;> simp
  · show wordOf ((outS 400 true n).or none) = _
    unfold want outS
    cases e : bad with
    | true =>
      rw [if_neg (hb.mp e)]
      rfl
    | false =>
      have h12 := hb12 e
      rw [if_pos (show 1 ≤ n ∧ n ≤ 400 from ⟨h12.1, by omega⟩)]
      by_cases g : n % 4 > 1
      · rw [if_pos ⟨rfl, g⟩]
        have ec : wantC false n 2 = true := by unfold wantC; rw [decide_eq_true (show (1 : Int) < n % 4 from g)]; rfl
        rw [if_pos ec]; rfl
      · rw [if_neg (fun z => g z.2)]
        have ec : wantC false n 2 = false := by unfold wantC; rw [decide_eq_false (show ¬ (1 : Int) < n % 4 from g)]; rfl
        rw [if_neg (by rw [ec]; decide), if_pos (by decide)]; rfl
  · refine small 3 8 (by decide) (by decide) rfl ?_
    unfold wantS
    cases e : bad with
    | true => have := hb.mp e; constructor
              · intro _ z; exact this ⟨z.1, by omega⟩
              · intro _; rfl
    | false =>
      have h12 := hb12 e
      constructor
      · intro z
        have : 8 < n := by simpa using z
        omega
      · intro z
        have : 8 < n := by omega
        simp [this]
  · refine small 4 5 (by decide) (by decide) rfl ?_
    unfold wantS
    cases e : bad with
    | true => have := hb.mp e; constructor
              · intro _ z; exact this ⟨z.1, by omega⟩
              · intro _; rfl
    | false =>
      have h12 := hb12 e
      constructor
      · intro z
        have : 5 < n := by simpa using z
        omega
      · intro z
        have : 5 < n := by omega
        simp [this]
  · refine rowy 5 d0 _ (by decide) ?_ rfl
    show wordOf ((outR row).or none) = _
    rw [Option.or_none]; exact h.r0
  · refine rowy 6 d0 _ (by decide) ?_ rfl
    show wordOf ((outR row).or none) = _
    rw [Option.or_none]; exact h.r0
  · refine rowy 7 d0 _ (by decide) ?_ rfl
    show wordOf ((outR row).or none) = _
    rw [Option.or_none]; exact h.r0
  · refine rowy 8 d0 _ (by decide) ?_ rfl
    show wordOf ((outR row).or none) = _
    rw [Option.or_none]; exact h.r0
  · exact rowy 9 d0 _ (by decide) h.g0 rfl
  · exact rowy 10 d0 _ (by decide) h.r0 rfl
  · exact rowy 11 d1 _ (by decide) h.t1 rfl
  · exact rowy 12 d1 _ (by decide) h.t2 rfl
  · exact rowy 13 d2 _ (by decide) h.d rfl
theorem asked_none {row : List Int} {x y : Int} (h : ¬ IsRow row) : Asked row x y "row" "row" "row" := by
  have c : isRowC row = false := isRowC_false h
  have e : ¬ isRowC row = true := by rw [c]; decide
  refine ⟨?_, ?_, ?_, ?_, ?_⟩
  · unfold outR; rw [if_neg e]; rfl
  · unfold outG; rw [if_neg e]; rfl
  · unfold outT; rw [if_neg e]; rfl
  · unfold outT; rw [if_neg e]; rfl
  · unfold outD; rw [if_neg e]; rfl
theorem asked_row {row : List Int} {x y : Int} {s : Nat} {d1 d2 : Str} (s1 : 1 ≤ s) (s9 : s ≤ 9) (h : RowOf s row) (h1 : d1 = wordOf (if (0 ≤ x ∧ x < 3 * row.length + 1) ∧ (0 ≤ y ∧ y < 3 * row.length + 1) ∧ x ≠ y then none else some 3))
    (h2 : d2 = wordOf (if 0 ≤ y ∧ y < 3 * row.length + 1 then none else some 3)) : Asked row x y "done" d1 d2 := by
  have c : isRowC row = true := (isRowC_iff _).mpr ⟨s, s1, by omega, h⟩
  have hl := h.1
  refine ⟨?_, ?_, ?_, ?_, ?_⟩
  · unfold outR; rw [if_pos c]; rfl
  · unfold outG; rw [if_pos c, if_pos (by omega)]; rfl
  · unfold outT; rw [if_pos c, h1]
    congr 1
    by_cases g : (0 ≤ x ∧ x < 3 * row.length + 1) ∧ (0 ≤ y ∧ y < 3 * row.length + 1) ∧ x ≠ y
    · rw [if_pos g, if_pos ⟨g.1.1, g.1.2, g.2.1.1, g.2.1.2, g.2.2⟩]
    · rw [if_neg g, if_neg (fun z => g ⟨⟨z.1, z.2.1⟩, ⟨z.2.2.1, z.2.2.2.1⟩, z.2.2.2.2⟩)]
  · unfold outT; rw [if_pos c, h1]
    congr 1
    by_cases g : (0 ≤ x ∧ x < 3 * row.length + 1) ∧ (0 ≤ y ∧ y < 3 * row.length + 1) ∧ x ≠ y
    · rw [if_pos g, if_pos ⟨g.2.1.1, g.2.1.2, g.1.1, g.1.2, Ne.symm g.2.2⟩]
    · rw [if_neg g, if_neg (fun z => g ⟨⟨z.2.2.1, z.2.2.2.1⟩, ⟨z.1, z.2.1⟩, Ne.symm z.2.2.2.2⟩)]
  · unfold outD; rw [if_pos c, h2]
def rowChk (s : Nat) (row : List Int) : Bool := decide (row.length = 2 * s) && (List.range s).all fun i => match plc row 0 ((i + 1 : Nat) : Int) with
  | [p, q] => decide (q = p + ((i + 1 : Nat) : Int))
  | _ => false
theorem rowChk_row {s : Nat} {row : List Int} (h : rowChk s row = true) : RowOf s row := by
  unfold rowChk at h
  rw [Bool.and_eq_true, decide_eq_true_eq, List.all_eq_true] at h
  refine ⟨h.1, fun n n1 n2 => ?_⟩
  have := h.2 (n - 1) (List.mem_range.mpr (by omega))
  rw [show n - 1 + 1 = n by omega] at this
  split at this
  · rename_i p q e
    have := of_decide_eq_true this
    exact ⟨p, by rw [e, this]⟩
  · cases this
theorem row9 : RowOf 9 (rowOf 9) := rowChk_row (by decide +kernel)
theorem row12 : RowOf 12 (rowOf 12) := rowChk_row (by decide +kernel)
theorem tOr_of {ta tb : TE} {σ : St} {H : Hp} {Q : VK} {b c : Bool} (ha : ∀ R : VK, R (.bl b) H → ta σ H R) (hb : ∀ R : VK, R (.bl c) H → tb σ H R) (q : Q (.bl (b || c)) H) : tOrV ta tb σ H Q := ha _ ⟨b, rfl, by
  cases b
  · exact iteF (hb _ q)
  · exact iteT q⟩
theorem tAnd_of {ta tb : TE} {σ : St} {H : Hp} {Q : VK} {b c : Bool} (ha : ∀ R : VK, R (.bl b) H → ta σ H R) (hb : ∀ R : VK, R (.bl c) H → tb σ H R) (q : Q (.bl (b && c)) H) : tAndV ta tb σ H Q := ha _ ⟨b, rfl, by
  cases b
  · exact iteF q
  · exact iteT (hb _ q)⟩
theorem tAndT_of {ta tb : TT} {σ : St} {H : Hp} {Q : Bool → Hp → Prop} {b c : Bool} (ha : ∀ R : Bool → Hp → Prop, R b H → ta σ H R) (hb : ∀ R : Bool → Hp → Prop, R c H → tb σ H R) (q : Q (b && c) H) : tAnd ta tb σ H Q := ha _ (by
  cases b
  · exact iteF q
  · exact iteT (hb _ q))
theorem dec_int (a b : Int) : decide (V.int a = V.int b) = decide (a = b) := decide_eq_decide.mpr ⟨fun h => by injection h, fun h => by rw [h]⟩
theorem small30 {n : Nat} (h : n ≤ 10 ^ 30) : n < 2 ^ 1800 := Nat.lt_of_le_of_lt h (Nat.lt_of_lt_of_le (by decide : 10 ^ 30 < 2 ^ 100) (Nat.pow_le_pow_right (by decide) (by decide)))
end Law
namespace Law
open PySem L2
def top (i : Nat) : Stmt := PySem.Challenge.pw_sameapart_k12_refused.main.body.getD i (.Pass ⟨0, 0, 0, 0⟩)
abbrev s_check_size : Stmt := top 12
abbrev s_check_row : Stmt := top 13
abbrev s_found_places : Stmt := top 14
abbrev s_stands_well : Stmt := top 15
abbrev s_is_row : Stmt := top 16
abbrev s_contrary : Stmt := top 17
abbrev s_places : Stmt := top 18
abbrev s_can_be : Stmt := top 19
abbrev s_reckoned : Stmt := top 20
abbrev s_first_place : Stmt := top 21
abbrev s_with_number : Stmt := top 22
abbrev s_row_of : Stmt := top 23
abbrev s_fits : Stmt := top 24
abbrev s_carried_on : Stmt := top 25
abbrev s_all_rows : Stmt := top 26
abbrev s_many : Stmt := top 27
abbrev s_rows : Stmt := top 28
abbrev s_people : Stmt := top 31
abbrev s_is_person : Stmt := top 32
abbrev s_are_two_people : Stmt := top 33
abbrev s_base_group : Stmt := top 34
abbrev s_turned : Stmt := top 35
abbrev s_turned_to : Stmt := top 36
abbrev s_number_of_step : Stmt := top 37
abbrev s_group_of_two : Stmt := top 38
abbrev s_group : Stmt := top 39
abbrev s_third : Stmt := top 40
abbrev s_day : Stmt := top 41
abbrev s_is_group : Stmt := top 42
abbrev s_groups : Stmt := top 43
abbrev s_shown : Stmt := top 45
abbrev s__law_cell_at : Stmt := top 47
abbrev s__law_draw : Stmt := top 48
abbrev s__law_filled : Stmt := top 50
abbrev s__law_small_row : Stmt := top 51
abbrev s__law_word_of : Stmt := top 52
abbrev s__law_first : Stmt := top 53
abbrev s__law_second : Stmt := top 54
abbrev s__law_tried : Stmt := top 55
abbrev s__law_bad_row : Stmt := top 56
abbrev s_law : Stmt := top 57
end Law
namespace Law
open PySem L2 SA
seal PE PA PT PW PS PSs PG PGs PI PC PIfs PSet OpR UnR CallR IxR SlR PO
section
variable {P : Program} {w : World} {K : PySem.W.Frag} {mg : Str → Option Value} {base : Heap}
theorem sc_cell : FnScope ["script", "k"] ["script", "k"] (defScope s__law_cell_at) := ⟨rfl, rfl, rfl, by decide +kernel, rfl, by decide +kernel, by decide +kernel⟩
theorem ok_cell (D : Def K mg "_law_cell_at" s__law_cell_at ["script", "k"]) (B : Bn mg) : Cal P w K mg base 1 "_law_cell_at" ["script", "k"] (spCell K) := by
  refine D.ok sc_cell (fun vs H Q E h => ?_) (fun f cdv A outer s H vs Q E hr h => ?_)
  · obtain ⟨a, ns, k, rfl, _⟩ := h
    rfl
  · obtain ⟨a, ns, k, rfl, hS, q⟩ := h
    refine ⟨_, pss_cons (ps_if (pt_cmpR op_lt (pv 1) (pe_callB call_len_seq (by rfl) B.len PySem.boot_len (pa_cons (pv 0) pa_nil)) (nomark _)) (pss_one (ps_ret (pe_ix ix_list (pv 0) (pv 1) (fun _ _ => rfl)))) pss_nil)
      (pss_one (ps_ret pe_int)), ?_⟩
    refine ⟨_, rfl, _, rfl, a, _, rfl, .inl hS, _, _, rfl, rfl, _, rfl, ?_⟩
    refine ite2 (fun hc => ?_) (fun hc => ?_)
    · have hc := of_decide_eq_true hc
      rw [List.length_map] at hc
      have hk : k < ns.length := by omega
      refine ⟨_, rfl, _, rfl, a, _, _, _, rfl, rfl, hS, atI_nat (map_at (List.getElem?_eq_getElem hk)), ?_⟩
      rw [List.getD_eq_getElem?_getD, List.getElem?_eq_getElem hk] at q
      exact q
    · have hc : ¬ ((k : Int) < ((ns.map V.int).length : Int)) := fun z => hc (decide_eq_true z)
      rw [List.length_map] at hc
      rw [List.getD_eq_getElem?_getD, List.getElem?_eq_none (by omega)] at q
      exact q
end
end Law
namespace Law
open PySem L2 SA
seal PE PA PT PW PS PSs PG PGs PI PC PIfs PSet OpR UnR CallR IxR SlR PO
section
variable {P : Program} {w : World} {K : PySem.W.Frag} {mg : Str → Option Value} {base : Heap}
theorem sc_draw : FnScope ["cell", "k", "bound", "stir"] ["cell", "k", "bound"] (defScope s__law_draw) := ⟨rfl, rfl, rfl, by decide +kernel, rfl, by decide +kernel, by decide +kernel⟩
theorem ok_draw (D : Def K mg "_law_draw" s__law_draw ["cell", "k", "bound"]) : Cal P w K mg base 1 "_law_draw" ["cell", "k", "bound"] spDraw := by
  refine D.ok sc_draw (fun vs H Q E h => ?_) (fun f cdv A outer s H vs Q E hr h => ?_)
  · obtain ⟨c, k, b, rfl, _⟩ := h
    rfl
  · obtain ⟨c, k, b, rfl, hb, q⟩ := h
    refine ⟨_, pss_cons (ps_set (i := 3) sc_draw.nd rfl (Or.inl rfl) (pe_op op_mod (pe_op op_mul (pe_op op_add (pe_op op_add (pe_op op_mod (pv 0) pe_int) (pe_op op_mul pe_int (pv 1))) pe_int) pe_int) pe_int))
      (pss_cons (ps_set (i := 3) sc_draw.nd rfl (Or.inl rfl) (pe_op op_mod (pe_op op_mul (pv 3) (pv 3)) pe_int))
      (pss_cons (ps_set (i := 3) sc_draw.nd rfl (Or.inl rfl) (pe_op op_mod (pe_op op_mul (pe_op op_add (pv 3) (pe_op op_mul pe_int (pe_op op_add (pv 1) pe_int))) pe_int) pe_int))
      (pss_one (ps_ret (pe_op op_mod (pe_op op_fdiv (pv 3) pe_int) (pv 2)))))), ?_⟩
    refine ⟨_, rfl, _, _, rfl, rfl, (by show (0 : Int) < 2147483647; decide), _, rfl, _, _, rfl, rfl, .inl ⟨by decide, by decide⟩, _, _, rfl, rfl, _, _, rfl, rfl, _, _, rfl, rfl, .inr ⟨by decide, by decide⟩, _, _, rfl, rfl, (by show (0 : Int) < 2147483647; decide), ?_⟩
    have bd : ∀ x : Int, -(2 ^ 64) < x % 2147483647 ∧ x % 2147483647 < 2 ^ 64 := fun x => by omega
    refine ⟨_, rfl, _, rfl, _, _, rfl, rfl, .inl (bd _), _, _, rfl, rfl, (by show (0 : Int) < 2147483629; decide), ?_⟩
    refine ⟨_, rfl, _, rfl, _, _, rfl, rfl, _, _, rfl, rfl, .inl ⟨by decide, by decide⟩, _, _, rfl, rfl, _, _, rfl, rfl, .inr ⟨by decide, by decide⟩, _, _, rfl, rfl, (by show (0 : Int) < 2147483647; decide), ?_⟩
    refine ⟨_, rfl, _, _, rfl, rfl, ⟨by decide, by decide⟩, _, rfl, _, _, rfl, rfl, hb, ?_⟩
    exact q
end
end Law
namespace Law
open PySem L2 SA
seal PE PA PT PW PS PSs PG PGs PI PC PIfs PSet OpR UnR CallR IxR SlR PO
section
variable {P : Program} {w : World} {K : PySem.W.Frag} {mg : Str → Option Value} {base : Heap}
theorem sc_check : FnScope ["size", "greatest"] ["size", "greatest"] (defScope s_check_size) := ⟨rfl, rfl, rfl, by decide +kernel, rfl, by decide +kernel, by decide +kernel⟩
theorem ok_check (D : Def K mg "check_size" s_check_size ["size", "greatest"]) : Cal P w K mg base 1 "check_size" ["size", "greatest"] spCheck := by
  refine D.ok sc_check (fun vs H Q E h => ?_) (fun f cdv A outer s H vs Q E hr h => ?_)
  · obtain ⟨n, g, rfl, _⟩ := h
    rfl
  · obtain ⟨n, g, rfl, h1, h2, q⟩ := h
    refine ⟨_, pss_one (ps_if (PW.pt (pw_or (pt_cmpR op_lt (pv 0) pe_int (nomark _)) (pw_or1 (pt_cmpR op_gt (pv 0) (pv 1) (nomark _))))) pss_never pss_nil), ?_⟩
    refine ⟨_, rfl, _, _, rfl, rfl, _, rfl, ?_⟩
    rw [decide_eq_false (by omega)]
    refine iteF ⟨_, rfl, _, rfl, _, _, rfl, rfl, _, rfl, ?_⟩
    rw [decide_eq_false (by omega)]
    exact iteF q
end
end Law
namespace Law
open PySem L2 SA
seal PE PA PT PW PS PSs PG PGs PI PC PIfs PSet OpR UnR CallR IxR SlR PO
section
variable {P : Program} {w : World} {K : PySem.W.Frag} {mg : Str → Option Value} {base : Heap}
theorem sc_can : FnScope ["size"] ["size"] (defScope s_can_be) := ⟨rfl, rfl, rfl, by decide +kernel, rfl, by decide +kernel, by decide +kernel⟩
theorem ok_can {tk : Tok} (D : Def K mg "can_be" s_can_be ["size"]) (hG : mg "GREATEST" = some (.int 400 tk)) (C1 : Cal P w K mg base 1 "check_size" ["size", "greatest"] spCheck) : Cal P w K mg base 2 "can_be" ["size"] spCan := by
  refine D.ok sc_can (fun vs H Q E h => ?_) (fun f cdv A outer s H vs Q E hr h => ?_)
  · obtain ⟨n, rfl, _⟩ := h
    rfl
  · obtain ⟨n, rfl, h1, h2, q⟩ := h
    refine ⟨_, pss_cons (ps_expr (pe_fn C1 hr (pa_cons (pv 0) (pa_cons (pe_glob (v := .int 400) (by rfl) hG ⟨_, rfl⟩) pa_nil)))) (pss_one (ps_ret (pe_cmpR op_le (pe_op op_mod (pv 0) pe_int) pe_int (nomark _)))), ?_⟩
    refine ⟨_, rfl, n, 400, rfl, h1, h2, ?_⟩
    exact ⟨_, rfl, _, _, rfl, rfl, (by show (0 : Int) < 4; decide), _, _, rfl, rfl, q⟩
end
end Law
namespace Law
open PySem L2 SA
seal PE PA PT PW PS PSs PG PGs PI PC PIfs PSet OpR UnR CallR IxR SlR PO
section
variable {P : Program} {w : World} {K : PySem.W.Frag} {mg : Str → Option Value} {base : Heap}
theorem sc_first : FnScope ["number", "size", "quarter", "rest"] ["number", "size"] (defScope s_first_place) := ⟨rfl, rfl, rfl, by decide +kernel, rfl, by decide +kernel, by decide +kernel⟩
theorem ok_first (D : Def K mg "first_place" s_first_place ["number", "size"]) : Cal P w K mg base 1 "first_place" ["number", "size"] spFirst := by
  refine D.ok sc_first (fun vs H Q E h => ?_) (fun f cdv A outer s H vs Q E hr h => ?_)
  · obtain ⟨n, s, rfl, _⟩ := h
    rfl
  · obtain ⟨n, z, rfl, q⟩ := h
    have d4 : CDiv z 4 := ⟨by decide, by decide⟩
    refine ⟨_, pss_cons (ps_set (i := 2) sc_first.nd rfl (Or.inl rfl) (pe_op op_fdiv (pv 1) pe_int))
      (pss_cons (ps_set (i := 3) sc_first.nd rfl (Or.inl rfl) (pe_op op_mod (pv 1) pe_int))
      (pss_cons (ps_if (pt_cmpR op_eq (pe_op op_mod (pv 0) pe_int) pe_int (nomark _)) (pss_one (ps_ret (pe_op op_sub (pe_op op_sub (pe_op op_add (pe_op op_mul pe_int (pv 2)) (pe_op op_mul pe_int (pv 3))) pe_int) (pe_op op_fdiv (pv 0) pe_int)))) pss_nil)
      (pss_cons (ps_if (pt_cmpR op_eq (pv 0) pe_int (nomark _)) (pss_one (ps_ret (pe_op op_sub (pe_op op_add (pv 2) (pv 3)) pe_int))) pss_nil)
      (pss_cons (ps_if (pt_cmpR op_eq (pv 0) (pe_op op_sub (pe_op op_mul pe_int (pv 2)) pe_int) (nomark _)) (pss_one (ps_ret (pe_op op_sub (pe_op op_add (pe_op op_mul pe_int (pv 2)) (pe_op op_mul pe_int (pv 3))) pe_int))) pss_nil)
      (pss_cons (ps_if (pt_cmpR op_eq (pv 0) (pe_op op_add (pe_op op_sub (pe_op op_mul pe_int (pv 2)) pe_int) (pe_op op_mul pe_int (pv 3))) (nomark _)) (pss_one (ps_ret (pe_op op_mul pe_int (pv 2)))) pss_nil)
      (pss_cons (ps_if (pt_cmpR op_gt (pv 0) (pe_op op_mul pe_int (pv 2)) (nomark _)) (pss_one (ps_ret (pe_op op_fdiv (pe_op op_sub (pe_op op_sub (pe_op op_add (pe_op op_mul pe_int (pv 2)) (pe_op op_mul pe_int (pv 3))) pe_int) (pv 0)) pe_int))) pss_nil)
      (pss_one (ps_ret (pe_op op_fdiv (pe_op op_sub (pe_op op_sub (pe_op op_add (pe_op op_mul pe_int (pv 2)) (pe_op op_mul pe_int (pv 3))) pe_int) (pv 0)) pe_int))))))))), ?_⟩
    refine ⟨_, rfl, _, _, rfl, rfl, ⟨by decide, by decide⟩, _, rfl, _, _, rfl, rfl, (by show (0 : Int) < 4; decide), ?_⟩
    refine ⟨_, rfl, _, _, rfl, rfl, (by show (0 : Int) < 2; decide), rfl, _, rfl, ?_⟩
    unfold fp at q
    refine ite2 (fun hc => ?_) (fun hc => ?_)
    · have hc : n % 2 = 0 := by simpa using hc
      rw [if_pos hc] at q
      exact ⟨_, rfl, _, _, rfl, rfl, .inl ⟨by decide, by decide⟩, _, rfl, _, _, rfl, rfl, .inl ⟨by decide, by decide⟩, _, _, rfl, rfl, _, _, rfl, rfl, _, rfl, _, _, rfl, rfl, ⟨by decide, by decide⟩, _, _, rfl, rfl, q⟩
    · have hc : ¬ n % 2 = 0 := by simpa using hc
      rw [if_neg hc] at q
      refine ⟨_, rfl, rfl, _, rfl, ?_⟩
      refine ite2 (fun hc => ?_) (fun hc => ?_)
      · have hc : n = 1 := by simpa using hc
        rw [if_pos hc] at q
        exact ⟨_, rfl, _, rfl, _, _, rfl, rfl, _, _, rfl, rfl, q⟩
      · have hc : ¬ n = 1 := by simpa using hc
        rw [if_neg hc] at q
        refine ⟨_, rfl, _, rfl, _, _, rfl, rfl, .inl ⟨by decide, by decide⟩, _, _, rfl, rfl, rfl, _, rfl, ?_⟩
        refine ite2 (fun hc => ?_) (fun hc => ?_)
        · have hc : n = 2 * (z / 4) - 1 := by simpa using hc
          rw [if_pos hc] at q
          exact ⟨_, rfl, _, _, rfl, rfl, .inl ⟨by decide, by decide⟩, _, rfl, _, _, rfl, rfl, .inl ⟨by decide, by decide⟩, _, _, rfl, rfl, _, _, rfl, rfl, q⟩
        · have hc : ¬ n = 2 * (z / 4) - 1 := by simpa using hc
          rw [if_neg hc] at q
          refine ⟨_, rfl, _, rfl, _, _, rfl, rfl, .inl ⟨by decide, by decide⟩, _, _, rfl, rfl, _, rfl, _, _, rfl, rfl, .inl ⟨by decide, by decide⟩, _, _, rfl, rfl, rfl, _, rfl, ?_⟩
          refine ite2 (fun hc => ?_) (fun hc => ?_)
          · have hc : n = 4 * (z / 4) - 1 + 2 * (z % 4) := by simpa using hc
            rw [if_pos hc] at q
            exact ⟨_, rfl, _, _, rfl, rfl, .inl ⟨by decide, by decide⟩, q⟩
          · have hc : ¬ n = 4 * (z / 4) - 1 + 2 * (z % 4) := by simpa using hc
            rw [if_neg hc] at q
            refine ⟨_, rfl, _, rfl, _, _, rfl, rfl, .inl ⟨by decide, by decide⟩, _, _, rfl, rfl, _, rfl, ?_⟩
            refine ite2 (fun hc => ?_) (fun hc => ?_)
            · have hc : n > 2 * (z / 4) := by simpa using hc
              rw [if_pos hc] at q
              exact ⟨_, rfl, _, _, rfl, rfl, .inl ⟨by decide, by decide⟩, _, rfl, _, _, rfl, rfl, .inl ⟨by decide, by decide⟩, _, _, rfl, rfl, _, _, rfl, rfl, _, rfl, _, _, rfl, rfl, _, _, rfl, rfl, ⟨by decide, by decide⟩, q⟩
            · have hc : ¬ n > 2 * (z / 4) := by simpa using hc
              rw [if_neg hc] at q
              exact ⟨_, rfl, _, _, rfl, rfl, .inl ⟨by decide, by decide⟩, _, rfl, _, _, rfl, rfl, .inl ⟨by decide, by decide⟩, _, _, rfl, rfl, _, _, rfl, rfl, _, rfl, _, _, rfl, rfl, _, _, rfl, rfl, ⟨by decide, by decide⟩, q⟩
end
end Law
namespace Law
open PySem L2 SA
seal PE PA PT PW PS PSs PG PGs PI PC PIfs PSet OpR UnR CallR IxR SlR PO
section
variable {P : Program} {w : World} {K : PySem.W.Frag} {mg : Str → Option Value} {base : Heap}
theorem sc_with : FnScope ["part", "number", "first", "longer"] ["part", "number", "first"] (defScope s_with_number) := ⟨rfl, rfl, rfl, by decide +kernel, rfl, by decide +kernel, by decide +kernel⟩
theorem ok_with (D : Def K mg "with_number" s_with_number ["part", "number", "first"]) (B : Bn mg) : Cal P w K mg base 1 "with_number" ["part", "number", "first"] (spWith K) := by
  refine D.ok sc_with (fun vs H Q E h => ?_) (fun f cdv A outer s H vs Q E hr h => ?_)
  · obtain ⟨a, row, n, p, rfl, _⟩ := h
    rfl
  · obtain ⟨a, row, n, p, rfl, hS, hl, q⟩ := h
    refine ⟨_, pss_cons (ps_set (i := 3) sc_with.nd rfl (Or.inl rfl) (pe_callTy call_list_of (by rfl) B.list PyProof.Rows.boot_list (pa_cons (pv 0) pa_nil)))
      (pss_cons (ps_asg (pv 1) (pg_sub (pv 3) (pv 2) set_list))
      (pss_cons (ps_asg (pv 1) (pg_sub (pv 3) (pe_op op_add (pv 2) (pv 1)) set_list))
      (pss_one (ps_ret (pv 3))))), ?_⟩
    refine ⟨_, rfl, a, _, rfl, .inl hS, fun l hn => ?_⟩
    refine ⟨_, rfl, _, rfl, _, rfl, l, _, _, p, rfl, rfl, upd_same, ixN_nat (by rw [List.length_map]; omega), ?_⟩
    refine ⟨_, rfl, _, rfl, _, rfl, _, rfl, _, _, rfl, rfl, l, _, _, p + n, rfl, rfl, upd_same, ?_, ?_⟩
    · have e : ((p : Int) + (n : Int)) = ((p + n : Nat) : Int) := by omega
      rw [e]
      exact ixN_nat (by rw [List.length_set, List.length_map]; omega)
    · refine ⟨_, rfl, q l _ hn ?_ fun b o e => ?_⟩
      · rw [upd_same, map_put]
      · rw [upd_ne (ne_of_none e hn), upd_ne (ne_of_none e hn), upd_ne (ne_of_none e hn)]
        exact e
end
end Law
namespace Law
open PySem L2 SA
seal PE PA PT PW PS PSs PG PGs PI PC PIfs PSet OpR UnR CallR IxR SlR PO
section
variable {P : Program} {w : World} {K : PySem.W.Frag} {mg : Str → Option Value} {base : Heap}
theorem sc_rowOf : FnScope ["size", "row", "number"] ["size"] (defScope s_row_of) := ⟨rfl, rfl, rfl, by decide +kernel, rfl, by decide +kernel, by decide +kernel⟩
theorem ok_rowOf {t5 : Addr} (D : Def K mg "row_of" s_row_of ["size"]) (B : Bn mg) (h5 : mg "ROW_OF_FIVE" = some (.ref t5)) (hT : ∀ H, SqT K H t5 ([1, 1, 3, 4, 5, 3, 2, 4, 2, 5].map V.int))
    (C1 : Cal P w K mg base 2 "can_be" ["size"] spCan) (C2 : Cal P w K mg base 1 "with_number" ["part", "number", "first"] (spWith K)) (C3 : Cal P w K mg base 1 "first_place" ["number", "size"] spFirst) : Cal P w K mg base 3 "row_of" ["size"] spRowOf := by
  refine D.ok sc_rowOf (fun vs H Q E h => ?_) (fun f cdv A outer s H vs Q E hr h => ?_)
  · obtain ⟨n, rfl, _⟩ := h
    rfl
  · obtain ⟨n, rfl, h1, h2, h4, q⟩ := h
    refine ⟨_, pss_cons (ps_if (pt_not (pt_val (pe_fn C1 hr (pa_cons (pv 0) pa_nil)))) pss_never pss_nil)
      (pss_cons (ps_if (pt_cmpR op_eq (pv 0) pe_int (nomark _)) (pss_one (ps_ret (pe_callTy call_list_of (by rfl) B.list PyProof.Rows.boot_list (pa_cons (pe_glob (v := .ref t5) (by rfl) h5 rfl) pa_nil)))) pss_nil)
      (pss_cons (ps_set (i := 1) sc_rowOf.nd rfl (Or.inl rfl) (pe_op op_rep (pe_lst (pa_cons pe_int pa_nil)) (pe_op op_mul pe_int (pv 0))))
      (pss_cons (ps_for PassesOwn.never rfl (pi_range2 rfl B.range (pa_cons pe_int (pa_cons (pe_op op_add (pv 0) pe_int) pa_nil))) (pg_name (i := 2) sc_rowOf.nd rfl (Or.inl rfl))
        (pss_one (ps_set (i := 1) sc_rowOf.nd rfl (Or.inl rfl) (pe_fn C2 (hr.mono (by decide)) (pa_cons (pv 1) (pa_cons (pv 2) (pa_cons (pe_fn C3 (hr.mono (by decide)) (pa_cons (pv 2) (pa_cons (pv 0) pa_nil))) pa_nil)))))))
      (pss_one (ps_ret (pv 1)))))), ?_⟩
    refine ⟨_, rfl, n, rfl, by omega, by omega, _, rfl, ?_⟩
    rw [decide_eq_true (by omega)]
    refine iteF ⟨_, rfl, rfl, _, rfl, ?_⟩
    refine ite2 (fun hc => ?_) (fun hc => ?_)
    · have hc : (n : Int) = 5 := by simpa using hc
      have hc : n = 5 := by omega
      subst hc
      refine ⟨t5, _, rfl, .inr (hT _), fun l hn => q l _ hn (by rw [upd_same]; rfl) fun b o e => ?_⟩
      rw [upd_ne (ne_of_none e hn)]; exact e
    · have hc : ¬ (n : Int) = 5 := by simpa using hc
      have h5 : n ≠ 5 := by omega
      refine ⟨by show 1 ≤ sizeLine; rw [sizeLine_eq]; decide, fun l1 hn1 => ?_⟩
      refine ⟨_, rfl, _, _, rfl, rfl, .inl ⟨by decide, by decide⟩, l1, _, _, rfl, rfl, upd_same, by omega, by omega, ?_, fun l2 hn2 => ?_⟩
      · simp only [List.length_cons, List.length_nil]
        rw [sizeLine_eq]; omega
      · have hn2' : H l2 = none := by
          rw [upd_ne (fun e => by subst e; rw [upd_same] at hn2; cases hn2)] at hn2; exact hn2
        have e2 : ((2 : Int) * (n : Int)).toNat = 2 * n := by omega
        rw [e2, map_rep]
        refine ⟨_, rfl, _, _, rfl, rfl, 1, (n : Int) + 1, rfl, ⟨by omega, by omega, by omega, by omega⟩, ?_⟩
        have e3 : ((n : Int) + 1 - 1).toNat = n := by omega
        rw [e3]
        refine for_range (lo := 1) (n := n) (fun i σ H2 => ∃ (l : Addr) (v : Option V), σ = [some (.int n), some (.ref l), v] ∧ Same H H2 ∧ H l = none ∧ H2 l = some (.lst ((fill n i).map V.int)))
          ⟨l2, none, rfl, fun b o e => ?_, hn2', upd_same⟩ ?_ ?_
        · rw [upd_ne (ne_of_none e hn2'), upd_ne (ne_of_none e hn1)]; exact e
        · rintro i σ H2 hi ⟨l, v, rfl, s2, hl0, hl2⟩
          have ⟨ef, hf⟩ := fpN_eq (n := i + 1) h1 h4 h5 (by omega) (by omega)
          refine ⟨_, rfl, _, rfl, _, rfl, _, rfl, _, _, rfl, l, fill n i, i + 1, fpN (i + 1) n, ?_, SqL.of hl2, by rw [fill_length]; exact hf, fun l3 H3 hn3 hl3 s3 => ?_⟩
          · have e4 : (1 : Int) + (i : Int) = ((i + 1 : Nat) : Int) := by omega
            rw [e4, ← ef]
            rfl
          · exact ⟨l3, _, rfl, s2.trans s3, s2.free hn3, hl3⟩
        · rintro σ H2 ⟨l, v, rfl, s2, hl0, hl2⟩
          refine ⟨_, rfl, q l H2 hl0 ?_ s2⟩
          rw [hl2]
          unfold rowOf
          rw [if_neg h5]
end
end Law
namespace Law
open PySem L2 SA
seal PE PA PT PW PS PSs PG PGs PI PC PIfs PSet OpR UnR CallR IxR SlR PO
section
variable {P : Program} {w : World} {K : PySem.W.Frag} {mg : Str → Option Value} {base : Heap}
theorem sc_found : FnScope ["row", "found", "place", "number"] ["row"] (defScope s_found_places) := ⟨rfl, rfl, rfl, by decide +kernel, rfl, by decide +kernel, by decide +kernel⟩
theorem ok_found (D : Def K mg "found_places" s_found_places ["row"]) (B : Bn mg) : Cal P w K mg base 1 "found_places" ["row"] spFound := by
  refine D.ok sc_found (fun vs H Q E h => ?_) (fun f cdv A outer s H vs Q E hr h => ?_)
  · obtain ⟨a, row, rfl, _⟩ := h
    rfl
  · obtain ⟨a, row, rfl, hS, hl, q⟩ := h
    have hu := hu_of hr
    refine ⟨_, pss_cons (ps_set (i := 1) sc_found.nd rfl (Or.inl rfl) pe_dnewK)
      (pss_cons (ps_for PassesOwn.never rfl (pi_enum rfl B.enumerate PyProof.Rows.boot_enumerate (pa_cons (pv 0) pa_nil)) (pg_tup rfl (pgs_cons (pg_name (i := 2) sc_found.nd rfl (Or.inl rfl)) (pgs_cons (pg_name (i := 3) sc_found.nd rfl (Or.inl rfl)) pgs_nil)))
        (pss_cons (ps_if (pt_cmp (pc_dnotin hu (pv 3) (pv 1))) (pss_one (ps_dput hu (pv 1) (pv 3) (pe_lst pa_nil) rfl)) pss_nil)
        (pss_one (ps_expr (pe_bm PySem.F.plainAttrs_list PySem.F.slot_list_append PySem.F.type_list_append mt_append (pe_dget hu (pv 1) (pv 3) (fun _ _ => rfl)) (pa_cons (pv 2) pa_nil))))))
      (pss_one (ps_ret (pv 1)))), ?_⟩
    intro d hd
    refine ⟨_, rfl, a, rfl, ⟨_, by rw [upd_ne (ne_of_none hS hd)]; exact hS⟩, ?_⟩
    refine for_enum (K := K) (a := a) (xs := row.map V.int) (fun i σ H2 => ∃ kvs v1 v2, σ = [some (.ref a), some (.ref d), v1, v2] ∧ Found H H2 d (row.take i) kvs)
      ⟨[], none, none, rfl, found_nil hd⟩ (fun i σ H2 _ ⟨_, _, _, _, F⟩ => SqL.of (F.sm _ _ hS)) ?_ ?_
    · rintro i y σ H2 p hi ⟨kvs, v1, v2, rfl, F⟩ hp
      obtain ⟨x, hx, rfl⟩ := map_get hi
      have hil : i < row.length := (List.getElem?_eq_some_iff.mp hx).1
      have et : row.take (i + 1) = row.take i ++ [x] := by rw [List.take_add_one, hx]; rfl
      have el : (row.take i).length = i := by rw [List.length_take]; omega
      have F' : Found H (upd H2 p (.tup [.int i, .int x])) d (row.take i) kvs := F.upd_new hp
      refine ⟨p, _, rfl, SqT.of upd_same, rfl, _, _, rfl, _, _, rfl, rfl, ?_⟩
      refine ⟨_, rfl, _, rfl, d, _, rfl, DGet.k (k := Sum.inl x) F'.dc, _, rfl, ?_⟩
      by_cases hq : plc (row.take i) 0 x = []
      · have e0 := F'.no x hq
        rw [e0]
        refine iteT ⟨by show 0 ≤ sizeLine; exact Nat.zero_le _, fun l hl => ?_⟩
        have hz : H l = none := F'.sm.free hl
        have dl : d ≠ l := ne_of_none F'.dc hl
        refine ⟨_, rfl, _, rfl, d, _, rfl, DPut.k (k := Sum.inl x) (by rw [upd_ne dl]; exact F'.dc) (small1000 (by have := F'.ln; omega)), ?_⟩
        refine ⟨_, rfl, _, rfl, d, .ref l, rfl, ?_, .inl ⟨rfl, _, SqL.of (by rw [upd_ne (Ne.symm dl), upd_same])⟩, _, rfl, l, _, _, rfl, rfl, by rw [upd_ne (Ne.symm dl), upd_same], by show 0 < sizeLine; rw [sizeLine_eq]; decide, ?_⟩
        · have := DGet.k (H := upd (upd (upd H2 p (.tup [.int i, .int x])) l (.lst [])) d (.dK (putK kvs (Sum.inl x) (.ref l)))) (a := d) (k := (Sum.inl x : Key)) upd_same
          rw [valV_put, if_pos rfl] at this
          exact this
        · refine ⟨putK kvs (Sum.inl x) (.ref l), _, _, rfl, ?_⟩
          rw [et]
          have := F'.put (l := l) hq hl hz
          rw [el] at this
          exact this
      · obtain ⟨l, h1, h2, h3⟩ := F'.ye x hq
        rw [h1]
        refine iteF ?_
        refine ⟨_, rfl, _, rfl, d, .ref l, rfl, ?_, .inl ⟨rfl, _, SqL.of h3⟩, _, rfl, l, _, _, rfl, rfl, h3, ?_, ?_⟩
        · have := DGet.k (H := upd H2 p (.tup [.int i, .int x])) (a := d) (k := (Sum.inl x : Key)) F'.dc
          rw [h1] at this
          exact this
        · rw [List.length_map, plc_length]
          exact small1000 (Nat.le_trans List.count_le_length (by omega))
        · refine ⟨kvs, _, _, rfl, ?_⟩
          rw [et]
          have := F'.app hq h1
          rw [el] at this
          exact this
    · rintro σ H2 ⟨kvs, v1, v2, rfl, F⟩
      rw [List.length_map, List.take_length] at F
      exact ⟨_, rfl, q d kvs H2 F⟩
end
end Law
namespace Law
open PySem L2 SA
seal PE PA PT PW PS PSs PG PGs PI PC PIfs PSet OpR UnR CallR IxR SlR PO
section
variable {P : Program} {w : World} {K : PySem.W.Frag} {mg : Str → Option Value} {base : Heap}
theorem sc_sw : FnScope ["number", "some"] ["number", "some"] (defScope s_stands_well) := ⟨rfl, rfl, rfl, by decide +kernel, rfl, by decide +kernel, by decide +kernel⟩
theorem ok_sw (D : Def K mg "stands_well" s_stands_well ["number", "some"]) (B : Bn mg) : Cal P w K mg base 1 "stands_well" ["number", "some"] (spSw K) := by
  refine D.ok sc_sw (fun vs H Q E h => ?_) (fun f cdv A outer s H vs Q E hr h => ?_)
  · obtain ⟨a, n, ps, rfl, _⟩ := h
    rfl
  · obtain ⟨a, n, ps, rfl, hS, q⟩ := h
    refine ⟨_, pss_one (ps_ret (pe_and (pe_cmpR op_eq (pe_callB call_len_seq (by rfl) B.len PySem.boot_len (pa_cons (pv 1) pa_nil)) pe_int (nomark _))
      (pe_one (pe_cmpR op_eq (pe_op op_sub (pe_ix ix_list (pv 1) pe_int (fun _ _ => rfl)) (pe_ix ix_list (pv 1) pe_int (fun _ _ => rfl))) (pv 0) (nomark _))))), ?_⟩
    refine ⟨_, rfl, a, _, rfl, .inl hS, rfl, _, rfl, ?_⟩
    refine ite2 (fun hc => ?_) (fun hc => ?_)
    · have hc : ps.length = 2 := by
        have := of_decide_eq_true hc
        simp at this
        omega
      match ps, hc with
      | [p, r], _ =>
        refine ⟨_, rfl, a, _, _, .int r, rfl, rfl, hS, atI_nat (j := 1) rfl, _, rfl, a, _, _, .int p, rfl, rfl, hS, atI_nat (j := 0) rfl, _, _, rfl, rfl, _, rfl, rfl, ?_⟩
        have e : decide (V.int (r - p) = V.int n) = decide (r - p = n) := by
          apply decide_eq_decide.mpr
          constructor
          · intro h; injection h
          · intro h; rw [h]
        first
          | exact q
          | (rw [e]; exact q)
    · have hc : ps.length ≠ 2 := fun z => hc (by simp [z])
      match ps, hc with
      | [], _ => exact q
      | [_], _ => exact q
      | [_, _], hc => exact absurd rfl hc
      | _ :: _ :: _ :: _, _ => exact q
end
end Law
namespace Law
open PySem L2 SA
seal PE PA PT PW PS PSs PG PGs PI PC PIfs PSet OpR UnR CallR IxR SlR PO
section
variable {P : Program} {w : World} {K : PySem.W.Frag} {mg : Str → Option Value} {base : Heap}
theorem sc_isRow : FnScope ["row", "size", "found"] ["row"] (defScope s_is_row) := ⟨rfl, rfl, rfl, by decide +kernel, rfl, by decide +kernel, by decide +kernel⟩
theorem ok_isRow {tk : Tok} (D : Def K mg "is_row" s_is_row ["row"]) (B : Bn mg) (hG : mg "GREATEST" = some (.int 400 tk)) (C1 : Cal P w K mg base 1 "found_places" ["row"] spFound) (C2 : Cal P w K mg base 1 "stands_well" ["number", "some"] (spSw K)) :
    Cal P w K mg base 2 "is_row" ["row"] spIsRow := by
  refine D.ok sc_isRow (fun vs H Q E h => ?_) (fun f cdv A outer s H vs Q E hr h => ?_)
  · obtain ⟨a, row, rfl, _⟩ := h
    rfl
  · obtain ⟨a, row, rfl, hS, hl, q⟩ := h
    have hu := hu_of hr
    refine ⟨_, pss_cons (ps_set (i := 1) sc_isRow.nd rfl (Or.inl rfl) (pe_op op_fdiv (pe_callB call_len_seq (by rfl) B.len PySem.boot_len (pa_cons (pv 0) pa_nil)) pe_int))
      (pss_cons (ps_if (PW.pt (pw_or (pt_cmpR op_ne (pe_callB call_len_seq (by rfl) B.len PySem.boot_len (pa_cons (pv 0) pa_nil)) (pe_op op_mul pe_int (pv 1)) (nomark _))
          (pw_or (pt_cmpR op_lt (pv 1) pe_int (nomark _)) (pw_or1 (pt_cmpR op_gt (pv 1) (pe_glob (v := .int 400) (by rfl) hG ⟨_, rfl⟩) (nomark _)))))) (pss_one (ps_ret pe_bl)) pss_nil)
      (pss_cons (ps_set (i := 2) sc_isRow.nd rfl (Or.inr rfl) (pe_fn C1 hr (pa_cons (pv 0) pa_nil)))
      (pss_one (ps_ret (pe_callB (call_all rfl) (by rfl) B.all PyProof.Rows.boot_all (pa_cons
        (pe_comp (T := ["number"]) (F := [("found", 2)]) rfl ⟨rfl, by decide +kernel, by decide +kernel, rfl, ⟨⟨rfl, rfl, by decide +kernel, rfl⟩, trivial⟩⟩ (pi_range2 rfl B.range (pa_cons pe_int (pa_cons (pe_op op_add (pv 1) pe_int) pa_nil)))
          (fun C s' H' fp => ⟨pg_name (i := 0) (show List.Nodup [("number" : Str), "found"] from by decide +kernel) rfl (Or.inl rfl), pifs_nil,
            pe_fn C2 hr (pa_cons (pv 0) (pa_cons (pe_dget2 hu (pv 1) (pv 0) (pe_lst pa_nil) ⟨rfl, rfl, rfl, rfl⟩) pa_nil))⟩)) pa_nil)))))), ?_⟩
    have el : (((row.map V.int).length : Nat) : Int) = (row.length : Int) := by rw [List.length_map]
    refine ⟨_, rfl, a, _, rfl, .inl (SqL.of hS), _, _, rfl, rfl, ⟨by decide, by decide⟩, ?_⟩
    refine ⟨_, rfl, a, _, rfl, .inl (SqL.of hS), _, rfl, _, _, rfl, rfl, .inl ⟨by decide, by decide⟩, rfl, _, rfl, ?_⟩
    rw [el]
    have no : ¬ IsRow row → Q (.bl false) H := fun h => by
      have e : isRowC row = false := by
        cases e : isRowC row with
        | false => rfl
        | true => exact absurd ((isRowC_iff row).mp e) h
      rw [← e]; exact q H (Same.refl H)
    refine ite2 (fun hc => ?_) (fun hc => ?_)
    · have hc : ¬ (row.length : Int) = 2 * ((row.length : Int) / 2) := by simpa using hc
      exact iteT (no fun h => hc ((isRow_iff row).mp h).1)
    have hc1 : (row.length : Int) = 2 * ((row.length : Int) / 2) := by simpa using hc
    refine ⟨_, rfl, _, _, rfl, rfl, _, rfl, ?_⟩
    refine ite2 (fun hc => ?_) (fun hc => ?_)
    · have hc : (row.length : Int) / 2 < 1 := by simpa using hc
      exact iteT (no fun h => by have := (isRow_iff row).mp h; omega)
    have hc2 : ¬ (row.length : Int) / 2 < 1 := by simpa using hc
    refine ⟨_, rfl, _, _, rfl, rfl, _, rfl, ?_⟩
    refine ite2 (fun hc => ?_) (fun hc => ?_)
    · have hc : (row.length : Int) / 2 > 400 := by simpa using hc
      exact (no fun h => by have := (isRow_iff row).mp h; omega)
    have hc3 : ¬ (row.length : Int) / 2 > 400 := by simpa using hc
    refine ⟨_, rfl, a, row, rfl, hS, hl, fun d kvs H2 F => ?_⟩
    refine ⟨_, rfl, _, _, rfl, rfl, 1, (row.length : Int) / 2 + 1, rfl, ⟨by omega, by omega, by omega, by omega⟩, fun l hn => ?_⟩
    have en : ((row.length : Int) / 2 + 1 - 1).toNat = row.length / 2 := by omega
    rw [en]
    refine comp_range (lo := 1) (n := row.length / 2) (fun i σ ys H3 => ∃ v, σ = [v, some (.ref d)] ∧ Found H H3 d row kvs ∧ H3 l = some (.lst ys) ∧ ys = ((List.range i).map fun (k : Nat) => sw (1 + (k : Int)) (plc row 0 (1 + (k : Int)))).map V.bl)
      ⟨none, rfl, F.upd_new hn, upd_same, rfl⟩ ?_ ?_
    · rintro i σ ys H3 hi ⟨v, rfl, F3, hl3, rfl⟩
      refine comp_yes ?_
      refine ⟨_, rfl, _, rfl, d, rfl, .inl ⟨kvs, .inl F3.dc⟩, _, rfl, by show 0 ≤ sizeLine; exact Nat.zero_le _, fun p hp => ?_⟩
      have F4 : Found H (upd H3 p (.lst [])) d row kvs := F3.upd_new hp
      have hl4 : upd H3 p (.lst []) l = some (.lst (((List.range i).map fun (k : Nat) => sw (1 + (k : Int)) (plc row 0 (1 + (k : Int)))).map V.bl)) := by rw [upd_ne (ne_of_none hl3 hp)]; exact hl3
      have hz : (((List.range i).map fun (k : Nat) => sw (1 + (k : Int)) (plc row 0 (1 + (k : Int)))).map V.bl).length < sizeLine := by
        rw [List.length_map, List.length_map, List.length_range]; exact small1000 (by omega)
      have ey : (((List.range i).map fun (k : Nat) => sw (1 + (k : Int)) (plc row 0 (1 + (k : Int)))).map V.bl) ++ [V.bl (sw (1 + (i : Int)) (plc row 0 (1 + (i : Int))))] = ((List.range (i + 1)).map fun (k : Nat) => sw (1 + (k : Int)) (plc row 0 (1 + (k : Int)))).map V.bl := by
        rw [List.range_succ, List.map_append, List.map_append]; rfl
      have F5 : ∀ ys', Found H (upd (upd H3 p (.lst [])) l (.lst ys')) d row kvs := fun ys' => by
        have nl : ∀ b o, F4.dc = F4.dc → H b = some o → b ≠ l := fun b o _ e => ne_of_none e (F.sm.free hn)
        refine ⟨?_, F4.nd, fun b o e => ?_, F4.no, fun n hn' => ?_, F4.ij, F4.ln⟩
        · rw [upd_ne (ne_of F4.dc hl4 (by intro z; cases z))]; exact F4.dc
        · rw [upd_ne (nl b o rfl e)]; exact F4.sm b o e
        · obtain ⟨l2, g1, g2, g3⟩ := F.ye n hn'
          obtain ⟨l3, k1, k2, k3⟩ := F4.ye n hn'
          rw [g1] at k1
          have e : l2 = l3 := by simpa using k1
          subst e
          exact ⟨l2, g1, g2, by rw [upd_ne (ne_of_none g3 hn)]; exact k3⟩
      have hg := DGet.k (k := (Sum.inl (1 + (i : Int)) : Key)) F4.dc
      by_cases hq : plc row 0 (1 + (i : Int)) = []
      · rw [F4.no _ hq] at hg
        refine ⟨_, hg, p, _, [], rfl, SqL.of upd_same, hl4, hz, ?_⟩
        rw [hq] at ey
        refine ⟨_, rfl, F5 _, upd_same, ?_⟩
        exact ey
      · obtain ⟨l2, g1, g2, g3⟩ := F4.ye _ hq
        rw [g1] at hg
        refine ⟨_, hg, l2, _, plc row 0 (1 + (i : Int)), rfl, SqL.of g3, hl4, hz, ?_⟩
        exact ⟨_, rfl, F5 _, upd_same, ey⟩
    · rintro σ ys H3 ⟨v, rfl, F3, hl3, rfl⟩
      refine ⟨l, _, rfl, SqL.of hl3, ?_⟩
      rw [isRow_bool row hc1 (by omega) (by omega)]
      exact q H3 F3.sm
end
end Law
namespace Law
open PySem L2 SA
seal PE PA PT PW PS PSs PG PGs PI PC PIfs PSet OpR UnR CallR IxR SlR PO
section
variable {P : Program} {w : World} {K : PySem.W.Frag} {mg : Str → Option Value} {base : Heap}
theorem sc_crow : FnScope ["row"] ["row"] (defScope s_check_row) := ⟨rfl, rfl, rfl, by decide +kernel, rfl, by decide +kernel, by decide +kernel⟩
theorem ok_crow (D : Def K mg "check_row" s_check_row ["row"]) (C1 : Cal P w K mg base 2 "is_row" ["row"] spIsRow) : Cal P w K mg base 3 "check_row" ["row"] spCrow := by
  refine D.ok sc_crow (fun vs H Q E h => ?_) (fun f cdv A outer s H vs Q E hr h => ?_)
  · obtain ⟨a, row, rfl, _⟩ := h
    rfl
  · obtain ⟨a, row, rfl, hS, hl, hrow, q⟩ := h
    refine ⟨_, pss_one (ps_if (pt_not (pt_val (pe_fn C1 hr (pa_cons (pv 0) pa_nil)))) pss_never pss_nil), ?_⟩
    refine ⟨_, rfl, a, row, rfl, hS, hl, fun H1 s1 => ⟨_, rfl, ?_⟩⟩
    rw [(isRowC_iff row).mpr hrow]
    exact iteF (q H1 s1)
end
end Law
namespace Law
open PySem L2 SA
seal PE PA PT PW PS PSs PG PGs PI PC PIfs PSet OpR UnR CallR IxR SlR PO
section
variable {P : Program} {w : World} {K : PySem.W.Frag} {mg : Str → Option Value} {base : Heap}
theorem sc_filled : FnScope ["row", "number", "cell", "spare", "k", "place", "more", "found"] ["row", "number", "cell"] (defScope s__law_filled) := ⟨rfl, rfl, rfl, by decide +kernel, rfl, by decide +kernel, by decide +kernel⟩
theorem ok_filled (D : Def K mg "_law_filled" s__law_filled ["row", "number", "cell"]) (B : Bn mg) (C1 : Cal P w K mg base 1 "_law_draw" ["cell", "k", "bound"] spDraw) : ∀ n : Nat, Cal P w K mg base (n + 2) "_law_filled" ["row", "number", "cell"] (spFilled n) := by
  intro n
  induction n with
  | zero =>
    refine D.ok sc_filled (fun vs H Q E h => ?_) (fun f cdv A outer s H vs Q E hr h => ?_)
    · obtain ⟨a, row, c, rfl, _⟩ := h
      rfl
    · obtain ⟨a, row, c, rfl, hS, h1, h2, q1, q2⟩ := h
      refine ⟨_, pss_cons (ps_if (pt_cmpR op_eq (pv 1) pe_int (nomark _)) (pss_one (ps_ret (pv 0))) pss_nil) pss_never, ?_⟩
      refine ⟨_, rfl, rfl, _, rfl, ?_⟩
      refine iteT ⟨_, rfl, q2 a row H (Same.refl H) (.inl rfl) hS rfl⟩
  | succ n ih =>
    refine D.ok sc_filled (fun vs H Q E h => ?_) (fun f cdv A outer s H vs Q E hr h => ?_)
    · obtain ⟨a, row, c, rfl, _⟩ := h
      rfl
    · obtain ⟨a, row, c, rfl, hS, h1, h2, q1, q2⟩ := h
      refine ⟨_, pss_cons (ps_if (pt_cmpR op_eq (pv 1) pe_int (nomark _)) (pss_one (ps_ret (pv 0))) pss_nil)
        (pss_cons (ps_set (i := 3) sc_filled.nd rfl (Or.inl rfl) (pe_op op_sub (pe_callB call_len_seq (by rfl) B.len PySem.boot_len (pa_cons (pv 0) pa_nil)) (pv 1)))
        (pss_cons (ps_for PassesOwn.never rfl (pi_range1 rfl B.range (pa_cons (pv 3) pa_nil)) (pg_name (i := 4) sc_filled.nd rfl (Or.inl rfl))
          (pss_cons (ps_set (i := 5) sc_filled.nd rfl (Or.inl rfl) (pe_op op_mod (pe_op op_add (pv 4) (pe_fn C1 (hr.mono (by omega)) (pa_cons (pv 2) (pa_cons (pv 1) (pa_cons (pv 3) pa_nil))))) (pv 3)))
          (pss_one (ps_if (PW.pt (pw_and (pt_cmpR op_eq (pe_ix ix_list (pv 0) (pv 5) (fun _ _ => rfl)) pe_int (nomark _)) (pw_and1 (pt_cmpR op_eq (pe_ix ix_list (pv 0) (pe_op op_add (pv 5) (pv 1)) (fun _ _ => rfl)) pe_int (nomark _)))))
            (pss_cons (ps_set (i := 6) sc_filled.nd rfl (Or.inl rfl) (pe_callTy call_list_of (by rfl) B.list PyProof.Rows.boot_list (pa_cons (pv 0) pa_nil)))
            (pss_cons (ps_asg (pv 1) (pg_sub (pv 6) (pv 5) set_list))
            (pss_cons (ps_asg (pv 1) (pg_sub (pv 6) (pe_op op_add (pv 5) (pv 1)) set_list))
            (pss_cons (ps_set (i := 7) sc_filled.nd rfl (Or.inl rfl) (pe_fn ih hr (pa_cons (pv 6) (pa_cons (pe_op op_sub (pv 1) pe_int) (pa_cons (pv 2) pa_nil)))))
            (pss_one (ps_if (pt_cmpR op_notN (pv 7) pe_non (nomark _)) (pss_one (ps_ret (pv 7))) pss_nil)))))) pss_nil))))
        (pss_one (ps_ret pe_non)))), ?_⟩
      refine ⟨_, rfl, rfl, _, rfl, ?_⟩
      refine ite2 (fun hc => ?_) (fun _ => ?_)
      · have hc : ((n + 1 : Nat) : Int) = 0 := by simpa using hc
        omega
      refine ⟨_, rfl, a, _, rfl, .inl (SqL.of hS), _, rfl, _, _, rfl, rfl, ?_⟩
      rw [List.length_map]
      obtain ⟨sp, esp⟩ : ∃ sp : Nat, sp = row.length - (n + 1) := ⟨_, rfl⟩
      have e1 : (row.length : Int) - ((n + 1 : Nat) : Int) = (sp : Int) := by omega
      rw [show (fun (i j : Int) => V.int (i - j)) (row.length : Int) ((n + 1 : Nat) : Int) = V.int (sp : Int) from congrArg V.int e1]
      have dr := draw_range c ((n + 1 : Nat) : Int) (b := (sp : Int)) (by omega)
      generalize hd : draw c ((n + 1 : Nat) : Int) (sp : Int) = d at dr
      refine ⟨_, rfl, _, rfl, by omega, by omega, ?_⟩
      have e2 : ((sp : Int)).toNat = sp := by omega
      rw [e2]
      refine for_range (lo := 0) (n := sp) (fun i σ H2 => ∃ v4 v5 v6 v7, σ = [some (.ref a), some (.int ((n + 1 : Nat) : Int)), some (.int c), some (.int sp), v4, v5, v6, v7] ∧ Same H H2 ∧
          ∀ j : Nat, j < i → ∀ r, ¬ (row[(((j : Int) + d) % (sp : Int)).toNat]? = some 0 ∧ row[(((j : Int) + d) % (sp : Int)).toNat + (n + 1)]? = some 0 ∧ Compl n (put row (n + 1) (((j : Int) + d) % (sp : Int)).toNat) r))
        ⟨none, none, none, none, rfl, Same.refl H, fun j hj => absurd hj (Nat.not_lt_zero _)⟩ ?_ ?_
      · rintro i σ H2 hi ⟨v4, v5, v6, v7, rfl, s2, hno⟩
        have e0 : (0 : Int) + (i : Int) = (i : Int) := by omega
        rw [e0]
        refine ⟨_, rfl, _, rfl, _, rfl, _, rfl, c, _, _, rfl, by omega, ?_⟩
        rw [hd]
        refine ⟨_, _, rfl, rfl, _, rfl, _, _, rfl, rfl, by omega, ?_⟩
        have hp0 := Int.emod_nonneg ((i : Int) + d) (b := (sp : Int)) (by omega)
        have hp1 := Int.emod_lt_of_pos ((i : Int) + d) (b := (sp : Int)) (by omega)
        have hnext : ∀ j : Nat, j < i + 1 → (j < i) ∨ j = i := fun j hj => by omega
        obtain ⟨p, hpp⟩ : ∃ p : Nat, ((i : Int) + d) % (sp : Int) = (p : Int) := ⟨(((i : Int) + d) % (sp : Int)).toNat, by omega⟩
        rw [hpp] at hp0 hp1
        rw [show (fun (i j : Int) => V.int (i % j)) ((i : Int) + d) (sp : Int) = V.int (p : Int) from congrArg V.int hpp]
        have ep : ((p : Int)).toNat = p := by omega
        have hlp : p < row.length := by omega
        have hlq : p + (n + 1) < row.length := by omega
        have g1 := List.getElem?_eq_getElem hlp
        have g2 := List.getElem?_eq_getElem hlq
        generalize row[p] = x1 at g1
        generalize row[p + (n + 1)] = x2 at g2
        have hS2 := s2 _ _ hS
        have step : ∀ H3 (w4 w5 w6 w7 : Option V), Same H H3 → (∀ r, ¬ (row[p]? = some 0 ∧ row[p + (n + 1)]? = some 0 ∧ Compl n (put row (n + 1) p) r)) →
            ∃ v4 v5 v6 v7, ([some (.ref a), some (.int ((n + 1 : Nat) : Int)), some (.int c), some (.int sp), w4, w5, w6, w7] : St) = [some (.ref a), some (.int ((n + 1 : Nat) : Int)), some (.int c), some (.int sp), v4, v5, v6, v7] ∧ Same H H3 ∧
          ∀ j : Nat, j < i + 1 → ∀ r, ¬ (row[(((j : Int) + d) % (sp : Int)).toNat]? = some 0 ∧ row[(((j : Int) + d) % (sp : Int)).toNat + (n + 1)]? = some 0 ∧ Compl n (put row (n + 1) (((j : Int) + d) % (sp : Int)).toNat) r) := by
          intro H3 w4 w5 w6 w7 s3 hn3
          refine ⟨w4, w5, w6, w7, rfl, s3, fun j hj => ?_⟩
          rcases hnext j hj with h | h
          · exact hno j h
          · subst h
            rw [hpp, ep]
            exact hn3
        refine ⟨_, rfl, _, rfl, a, _, _, _, rfl, rfl, SqL.of hS2, atI_nat (map_at g1), rfl, _, rfl, ?_⟩
        refine ite2 (fun hc => ?_) (fun hc => ?_)
        · have z1 : x1 = 0 := by simpa using hc
          have e3 : (p : Int) + ((n + 1 : Nat) : Int) = ((p + (n + 1) : Nat) : Int) := by omega
          refine ⟨_, rfl, _, rfl, _, rfl, _, _, rfl, rfl, a, _, _, _, rfl, rfl, SqL.of hS2, by rw [e3]; exact atI_nat (map_at g2), rfl, _, rfl, ?_⟩
          refine ite2 (fun hc => ?_) (fun hc => ?_)
          · have z2 : x2 = 0 := by simpa using hc
            refine ⟨_, rfl, a, _, rfl, .inl (SqL.of hS2), fun l hn => ?_⟩
            refine ⟨_, rfl, _, rfl, _, rfl, l, _, _, p, rfl, rfl, upd_same, ixN_nat (by rw [List.length_map]; omega), ?_⟩
            refine ⟨_, rfl, _, rfl, _, rfl, _, rfl, _, _, rfl, rfl, l, _, _, p + (n + 1), rfl, rfl, upd_same, by rw [e3]; exact ixN_nat (by rw [List.length_set, List.length_map]; omega), ?_⟩
            have hl0 : H l = none := s2.free hn
            have s3 : Same H2 (upd (upd (upd H2 l (.lst (row.map V.int))) l (.lst ((row.map V.int).set p (V.int ((n + 1 : Nat) : Int))))) l (.lst (((row.map V.int).set p (V.int ((n + 1 : Nat) : Int))).set (p + (n + 1)) (V.int ((n + 1 : Nat) : Int))))) := fun b o e => by
              rw [upd_ne (ne_of_none e hn), upd_ne (ne_of_none e hn), upd_ne (ne_of_none e hn)]; exact e
            refine ⟨_, rfl, _, rfl, _, _, rfl, rfl, _, rfl, l, put row (n + 1) p, c, ?_, ?_, by rw [put_length]; omega, by rw [put_length]; omega, fun H4 s4 hnc => ?_, fun l4 r H4 s4 hl4 hH4 hcm => ?_⟩
            · have e5 : ((n + 1 : Nat) : Int) - 1 = (n : Int) := by omega
              show [V.ref l, V.int (((n + 1 : Nat) : Int) - 1), V.int c] ++ [] = [V.ref l, V.int (n : Int), V.int c]
              rw [e5]
              rfl
            · rw [upd_same, map_put]
            · refine ⟨_, rfl, rfl, _, rfl, ?_⟩
              refine iteF ?_
              exact step _ _ _ _ _ ((s2.trans s3).trans s4) fun r hr => hnc ⟨r, hr.2.2⟩
            · refine ⟨_, rfl, rfl, _, rfl, ?_⟩
              refine iteT ⟨_, rfl, ?_⟩
              refine q2 l4 r H4 ((s2.trans s3).trans s4) (.inr ?_) hH4 ⟨p, by rw [g1, z1], by rw [g2, z2], hcm⟩
              rcases hl4 with h | h
              · rw [h]; exact hl0
              · exact (s2.trans s3).free h
          · have z2 : ¬ x2 = 0 := by simpa using hc
            refine step _ _ _ _ _ s2 fun r hr => z2 ?_
            rw [g2] at hr
            simpa using hr.2.1
        · have z1 : ¬ x1 = 0 := by simpa using hc
          refine step _ _ _ _ _ s2 fun r hr => z1 ?_
          rw [g1] at hr
          simpa using hr.1
      · rintro σ H2 ⟨v4, v5, v6, v7, rfl, s2, hno⟩
        refine q1 H2 s2 ?_
        rintro ⟨r, p, h0, hq, hcm⟩
        have hlq : p + (n + 1) < row.length := (List.getElem?_eq_some_iff.mp hq).1
        obtain ⟨j, j0, j1, ej⟩ := round (sp : Int) d dr.1 dr.2 (p : Int) (by omega) (by omega)
        have := hno j.toNat (by omega) r
        have ej2 : ((j.toNat : Nat) : Int) = j := by omega
        rw [ej2, ej] at this
        have ep : ((p : Int)).toNat = p := by omega
        rw [ep] at this
        exact this ⟨h0, hq, hcm⟩
end
end Law
namespace Law
open PySem L2 SA
seal PE PA PT PW PS PSs PG PGs PI PC PIfs PSet OpR UnR CallR IxR SlR PO
section
variable {P : Program} {w : World} {K : PySem.W.Frag} {mg : Str → Option Value} {base : Heap}
theorem sc_small : FnScope ["script", "first", "size"] ["script", "first"] (defScope s__law_small_row) := ⟨rfl, rfl, rfl, by decide +kernel, rfl, by decide +kernel, by decide +kernel⟩
theorem ok_small (D : Def K mg "_law_small_row" s__law_small_row ["script", "first"]) (B : Bn mg) (C1 : Cal P w K mg base 1 "_law_cell_at" ["script", "k"] (spCell K)) (C2 : ∀ n : Nat, Cal P w K mg base (n + 2) "_law_filled" ["row", "number", "cell"] (spFilled n)) :
    Cal P w K mg base 12 "_law_small_row" ["script", "first"] (spSmall K) := by
  refine D.ok sc_small (fun vs H Q E h => ?_) (fun f cdv A outer s H vs Q E hr h => ?_)
  · obtain ⟨a, ns, k, rfl, _⟩ := h
    rfl
  · obtain ⟨a, ns, k, rfl, hS, q⟩ := h
    obtain ⟨sz, hm, hz⟩ := mod7 (ns.getD k 0)
    have hle : sz ≤ 9 := by
      simp only [List.mem_cons, List.not_mem_nil, or_false] at hm
      omega
    refine ⟨_, pss_cons (ps_set (i := 2) sc_small.nd rfl (Or.inl rfl) (pe_ix ix_list (pe_lst (pa_cons pe_int (pa_cons pe_int (pa_cons pe_int (pa_cons pe_int (pa_cons pe_int (pa_cons pe_int (pa_cons pe_int pa_nil))))))))
        (pe_op op_mod (pe_fn C1 (hr.mono (by decide)) (pa_cons (pv 0) (pa_cons (pv 1) pa_nil))) pe_int) (fun _ _ => rfl)))
      (pss_one (ps_ret (pe_fn (C2 sz) (hr.mono (by omega)) (pa_cons
        (pe_comp (T := ["k"]) (F := []) rfl ⟨rfl, by decide +kernel, by decide +kernel, rfl, trivial⟩ (pi_range1 rfl B.range (pa_cons (pe_op op_mul pe_int (pv 2)) pa_nil))
          (fun C s' H' fp => ⟨pg_name (i := 0) (show List.Nodup [("k" : Str)] from by decide +kernel) rfl (Or.inl rfl), pifs_nil, pe_int⟩))
        (pa_cons (pv 2) (pa_cons (pe_fn C1 (hr.mono (by decide)) (pa_cons (pv 0) (pa_cons (pe_op op_add (pv 1) pe_int) pa_nil))) pa_nil)))))), ?_⟩
    refine ⟨by show 7 ≤ sizeLine; rw [sizeLine_eq]; decide, fun p hp => ?_⟩
    have s1 : Same H (upd H p (.lst [V.int 1, V.int 4, V.int 5, V.int 8, V.int 9, V.int 4, V.int 5])) := fun b o e => by rw [upd_ne (ne_of_none e hp)]; exact e
    refine ⟨_, rfl, _, rfl, a, ns, k, rfl, s1.seq hS, _, _, rfl, rfl, (by show (0 : Int) < 7; decide), p, _, _, _, rfl, rfl, SqL.of upd_same, hz, ?_⟩
    refine ⟨_, rfl, _, _, rfl, rfl, .inl ⟨by decide, by decide⟩, 2 * (sz : Int), rfl, by omega, by omega, fun l hl => ?_⟩
    have e2 : (2 * (sz : Int)).toNat = 2 * sz := by omega
    rw [e2]
    have hl0 : H l = none := s1.free hl
    refine comp_range (lo := 0) (n := 2 * sz) (fun i σ ys H3 => ∃ v, σ = [v] ∧ Same H H3 ∧ H3 l = some (.lst ys) ∧ ys = List.replicate i (V.int 0)) ⟨none, rfl, fun b o e => ?_, upd_same, rfl⟩ ?_ ?_
    · rw [upd_ne (ne_of_none e hl0)]; exact s1 b o e
    · rintro i σ ys H3 hi ⟨v, rfl, s3, hl3, rfl⟩
      refine comp_yes ?_
      refine ⟨hl3, by rw [List.length_replicate]; exact small1000 (by omega), _, rfl, fun b o e => ?_, upd_same, ?_⟩
      · rw [upd_ne (ne_of_none e hl0)]; exact s3 b o e
      · rw [List.replicate_succ']
    · rintro σ ys H3 ⟨v, rfl, s3, hl3, rfl⟩
      refine ⟨_, rfl, _, rfl, _, rfl, _, _, rfl, rfl, a, ns, k + 1, ?_, s3.seq hS, ?_⟩
      · have e : (k : Int) + 1 = ((k + 1 : Nat) : Int) := by omega
        show [V.ref a, V.int ((k : Int) + 1)] ++ [] = [V.ref a, V.int ((k + 1 : Nat) : Int)]
        rw [e]; rfl
      refine ⟨l, List.replicate (2 * sz) 0, _, rfl, by rw [map_zero]; exact hl3, by rw [List.length_replicate]; exact Nat.le_refl _, by rw [List.length_replicate]; omega, fun H4 s4 hno => ?_, fun l4 r H4 s4 hl4 hH4 hcm => ?_⟩
      · exact absurd (compl_small sz hm) hno
      · refine q l4 sz r H4 hm hcm.rowOf (s3.trans s4) ?_ hH4
        rcases hl4 with h | h
        · rw [h]; exact hl0
        · exact s3.free h
end
end Law
namespace Law
open PySem L2 SA
seal PE PA PT PW PS PSs PG PGs PI PC PIfs PSet OpR UnR CallR IxR SlR PO PJ
section
variable {P : Program} {w : World} {K : PySem.W.Frag} {mg : Str → Option Value} {base : Heap} {c0 c1 c2 c3 c4 : Addr}
theorem sc_word : FnScope ["e", "kinds"] ["e"] (defScope s__law_word_of) := ⟨rfl, rfl, rfl, by decide +kernel, rfl, by decide +kernel, by decide +kernel⟩
theorem ok_word (D : Def K mg "_law_word_of" s__law_word_of ["e"]) (B : Bn mg) (F5 : Five K mg c0 c1 c2 c3 c4) : CalM P w K mg base 1 "_law_word_of" ["e"] (spWord K c0 c1 c2 c3 c4) := by
  refine D.okM sc_word (fun vs H Q E h => ?_) (fun f cdv A outer s H vs Q E hr h => ?_)
  · obtain ⟨a, C, j, rfl, _⟩ := h
    rfl
  · obtain ⟨a, C, j, rfl, ha, hj, kd, q⟩ := h
    refine ⟨_, pss_cons (ps_set (i := 1) sc_word.nd rfl (Or.inl rfl) (pe_lst (pa_cons (pe_callB call_isX (by rfl) B.isinstance PyProof.Rows.boot_isinstance (pa_cons (pv 0) (pa_cons (pe_glob (v := .ref c0) (by rfl) F5.n0 rfl) pa_nil)))
        (pa_cons (pe_callB call_isX (by rfl) B.isinstance PyProof.Rows.boot_isinstance (pa_cons (pv 0) (pa_cons (pe_glob (v := .ref c1) (by rfl) F5.n1 rfl) pa_nil)))
        (pa_cons (pe_callB call_isX (by rfl) B.isinstance PyProof.Rows.boot_isinstance (pa_cons (pv 0) (pa_cons (pe_glob (v := .ref c2) (by rfl) F5.n2 rfl) pa_nil))) pa_nil)))))
      (pss_cons (ps_set (i := 1) sc_word.nd rfl (Or.inl rfl) (pe_op op_cat (pv 1) (pe_lst (pa_cons (pe_callB call_isX (by rfl) B.isinstance PyProof.Rows.boot_isinstance (pa_cons (pv 0) (pa_cons (pe_glob (v := .ref c3) (by rfl) F5.n3 rfl) pa_nil)))
        (pa_cons (pe_callB call_isX (by rfl) B.isinstance PyProof.Rows.boot_isinstance (pa_cons (pv 0) (pa_cons (pe_glob (v := .ref c4) (by rfl) F5.n4 rfl) pa_nil))) pa_nil)))))
      (pss_cons (ps_if (PW.pt (pw_or (pt_cmpR op_ne (pe_bm PySem.F.plainAttrs_list PySem.F.slot_list_count PySem.F.type_list_count mt_count (pv 1) (pa_cons pe_bl pa_nil)) pe_int (nomark _))
        (pw_or1 (pt_not (pt_val (pe_callB call_isX (by rfl) B.isinstance PyProof.Rows.boot_isinstance (pa_cons (pv 0) (pa_cons (pe_bltn (v := .ty "ValueError") (by rfl) F5.nv PyProof.Rows.Boot.ValueError rfl) pa_nil)))))))) (pss_one (ps_ret pe_str)) pss_nil)
      (pss_one (ps_ret (pe_ix ix_list (pe_lst (pa_cons pe_str (pa_cons pe_str (pa_cons pe_str (pa_cons pe_str (pa_cons pe_str pa_nil))))))
        (pe_bm PySem.F.plainAttrs_list PySem.F.slot_list_index PySem.F.type_list_index mt_index (pv 1) (pa_cons pe_bl pa_nil)) (fun _ _ => rfl)))))), ?_⟩
    have five : 5 ≤ sizeLine := by rw [sizeLine_eq]; decide
    refine ⟨_, rfl, a, C, _, _, _, rfl, ha, kd.xc, .inl ⟨_, rfl, rfl⟩, kd.k0, _, rfl, a, C, _, _, _, rfl, ha, kd.xc, .inl ⟨_, rfl, rfl⟩, kd.k1, _, rfl, a, C, _, _, _, rfl, ha, kd.xc, .inl ⟨_, rfl, rfl⟩, kd.k2, by show 3 ≤ sizeLine; omega, fun l1 hl1 => ?_⟩
    have s1 := same_upd (o := .lst [V.bl (decide (j = 0)), V.bl (decide (j = 1)), V.bl (decide (j = 2))]) (Same.refl _) hl1
    have ha1 := s1 _ _ ha
    refine ⟨_, rfl, _, rfl, a, C, _, _, _, rfl, ha1, kd.xc, .inl ⟨_, rfl, rfl⟩, kd.k3, _, rfl, a, C, _, _, _, rfl, ha1, kd.xc, .inl ⟨_, rfl, rfl⟩, kd.k4, by show 2 ≤ sizeLine; omega, fun l2 hl2 => ?_⟩
    have s2 := same_upd (o := .lst [V.bl (decide (j = 3)), V.bl (decide (j = 4))]) (Same.refl _) hl2
    refine ⟨l1, l2, _, _, rfl, rfl, s2 _ _ upd_same, upd_same, by show 5 ≤ sizeLine; exact five, fun l3 hl3 => ?_⟩
    have s3 := same_upd (o := .lst ([V.bl (decide (j = 0)), V.bl (decide (j = 1)), V.bl (decide (j = 2))] ++ [V.bl (decide (j = 3)), V.bl (decide (j = 4))])) (Same.refl _) hl3
    have ha3 := s3 _ _ (s2 _ _ ha1)
    have hk3 := upd_same (H := upd (upd H l1 (.lst [V.bl (decide (j = 0)), V.bl (decide (j = 1)), V.bl (decide (j = 2))])) l2 (.lst [V.bl (decide (j = 3)), V.bl (decide (j = 4))])) (a := l3) (o := .lst ([V.bl (decide (j = 0)), V.bl (decide (j = 1)), V.bl (decide (j = 2))] ++ [V.bl (decide (j = 3)), V.bl (decide (j = 4))]))
    have s03 : Same H _ := s1.trans (s2.trans s3)
    generalize upd (upd (upd H l1 (.lst [V.bl (decide (j = 0)), V.bl (decide (j = 1)), V.bl (decide (j = 2))])) l2 (.lst [V.bl (decide (j = 3)), V.bl (decide (j = 4))])) l3 (.lst ([V.bl (decide (j = 0)), V.bl (decide (j = 1)), V.bl (decide (j = 2))] ++ [V.bl (decide (j = 3)), V.bl (decide (j = 4))])) = H3 at *
    refine ⟨_, rfl, .inl ⟨rfl, _, SqL.of hk3⟩, l3, _, _, rfl, rfl, SqL.of hk3, rfl, rfl, rfl, _, rfl, ?_⟩
    have hcnt : List.countP (fun z => eqV z (V.bl true)) ([V.bl (decide (j = 0)), V.bl (decide (j = 1)), V.bl (decide (j = 2))] ++ [V.bl (decide (j = 3)), V.bl (decide (j = 4))]) = 1 := by
      have : j = 0 ∨ j = 1 ∨ j = 2 ∨ j = 3 ∨ j = 4 := by omega
      rcases this with rfl | rfl | rfl | rfl | rfl <;> rfl
    rw [hcnt]
    refine iteF ⟨_, rfl, a, C, _, _, _, rfl, ha3, kd.xc, .inr ⟨_, rfl, rfl⟩, kd.kv, _, rfl, ?_⟩
    refine iteF ⟨five, fun l4 hl4 => ?_⟩
    have s4 := same_upd (o := .lst [V.str "size", V.str "such", V.str "row", V.str "person", V.str "note"]) (Same.refl _) hl4
    have hk4 := s4 _ _ hk3
    refine ⟨_, rfl, .inl ⟨rfl, _, SqL.of hk4⟩, l3, _, _, j, .bl true, rfl, rfl, SqL.of hk4, rfl, rfl, ?_, rfl, ?_, l4, _, _, _, rfl, rfl, SqL.of upd_same, atI_nat (v := V.str (words.getD j "")) ?_, q _ (s03.trans s4)⟩
    · have : j = 0 ∨ j = 1 ∨ j = 2 ∨ j = 3 ∨ j = 4 := by omega
      rcases this with rfl | rfl | rfl | rfl | rfl <;> rfl
    · intro m hm z hz
      have : j = 0 ∨ j = 1 ∨ j = 2 ∨ j = 3 ∨ j = 4 := by omega
      have h5 : m = 0 ∨ m = 1 ∨ m = 2 ∨ m = 3 := by omega
      rcases this with rfl | rfl | rfl | rfl | rfl <;> rcases h5 with rfl | rfl | rfl | rfl <;> first | omega | (injection hz with hz; subst hz; rfl)
    · have : j = 0 ∨ j = 1 ∨ j = 2 ∨ j = 3 ∨ j = 4 := by omega
      rcases this with rfl | rfl | rfl | rfl | rfl <;> rfl
end
end Law
namespace Law
open PySem L2 SA
seal PE PA PT PW PS PSs PG PGs PI PC PIfs PSet OpR UnR CallR IxR SlR PO
section
variable {P : Program} {w : World} {K : PySem.W.Frag} {mg : Str → Option Value} {base : Heap}
def spReck : Sp := fun vs H Q _ => ∃ (n : Int), vs = [.int n] ∧ 1 ≤ n ∧ n ≤ 400 ∧ ∀ p, H p = none → Q (.ref p) (upd H p (.tup [.int ((n + 1) / 2), .int (n - (n + 1) / 2)]))
theorem sc_reck : FnScope ["size", "odd"] ["size"] (defScope s_reckoned) := ⟨rfl, rfl, rfl, by decide +kernel, rfl, by decide +kernel, by decide +kernel⟩
theorem ok_reck {tk : Tok} (D : Def K mg "reckoned" s_reckoned ["size"]) (hG : mg "GREATEST" = some (.int 400 tk)) (C1 : Cal P w K mg base 1 "check_size" ["size", "greatest"] spCheck) : Cal P w K mg base 2 "reckoned" ["size"] spReck := by
  refine D.ok sc_reck (fun vs H Q E h => ?_) (fun f cdv A outer s H vs Q E hr h => ?_)
  · obtain ⟨n, rfl, _⟩ := h
    rfl
  · obtain ⟨n, rfl, h1, h2, q⟩ := h
    refine ⟨_, pss_cons (ps_expr (pe_fn C1 hr (pa_cons (pv 0) (pa_cons (pe_glob (v := .int 400) (by rfl) hG ⟨_, rfl⟩) pa_nil))))
      (pss_cons (ps_set (i := 1) sc_reck.nd rfl (Or.inl rfl) (pe_op op_fdiv (pe_op op_add (pv 0) pe_int) pe_int))
      (pss_one (ps_ret (pe_tup (pa_cons (pv 1) (pa_cons (pe_op op_sub (pv 0) (pv 1)) pa_nil)))))), ?_⟩
    refine ⟨_, rfl, n, 400, rfl, h1, h2, ?_⟩
    refine ⟨_, rfl, _, _, rfl, rfl, _, _, rfl, rfl, ⟨by decide, by decide⟩, ?_⟩
    exact ⟨_, rfl, _, rfl, _, rfl, _, _, rfl, rfl, by show 2 ≤ sizeLine; rw [sizeLine_eq]; decide, q⟩
end
end Law
namespace Law
open PySem L2 SA
seal PE PA PT PW PS PSs PG PGs PI PC PIfs PSet OpR UnR CallR IxR SlR PO
section
variable {P : Program} {w : World} {K : PySem.W.Frag} {mg : Str → Option Value} {base : Heap}
theorem sc_fits : FnScope ["part", "number", "first", "second"] ["part", "number", "first"] (defScope s_fits) := ⟨rfl, rfl, rfl, by decide +kernel, rfl, by decide +kernel, by decide +kernel⟩
theorem ok_fits (D : Def K mg "fits" s_fits ["part", "number", "first"]) (B : Bn mg) : Cal P w K mg base 1 "fits" ["part", "number", "first"] (spFits K) := by
  refine D.ok sc_fits (fun vs H Q E h => ?_) (fun f cdv A outer s H vs Q E hr h => ?_)
  · obtain ⟨a, part, n, rfl, _⟩ := h
    rfl
  · obtain ⟨a, part, n, rfl, hS, q⟩ := h
    refine ⟨_, pss_cons (ps_set (i := 3) sc_fits.nd rfl (Or.inl rfl) (pe_op op_add (pv 2) (pv 1)))
      (pss_one (ps_ret (pe_and (pe_cmpR op_notIn_seq (pv 1) (pv 0) (by rfl)) (pe_and (pe_cmpR op_lt (pv 3) (pe_callB call_len_seq (by rfl) B.len PySem.boot_len (pa_cons (pv 0) pa_nil)) (nomark _))
        (pe_one (pe_cmpR op_eq (pe_ix ix_list (pv 0) (pv 3) (fun _ _ => rfl)) pe_int (nomark _))))))), ?_⟩
    have es : (free part : Int) + (n : Int) = ((free part + n : Nat) : Int) := by omega
    have el : (((part.map V.int).length : Nat) : Int) = (part.length : Int) := by rw [List.length_map]
    refine ⟨_, rfl, _, rfl, _, _, rfl, rfl, ?_⟩
    rw [show (fun (i j : Int) => V.int (i + j)) (free part : Int) (n : Int) = V.int ((free part + n : Nat) : Int) from congrArg V.int es]
    refine ⟨_, rfl, _, rfl, a, _, rfl, .inl hS, rfl, flat_ints part, _, rfl, ?_⟩
    rw [if_pos rfl, inV_ints]
    refine ite2 (fun hc => ?_) (fun hc => ?_)
    · refine ⟨_, rfl, _, rfl, a, _, rfl, .inl hS, _, _, rfl, rfl, _, rfl, ?_⟩
      rw [el]
      refine ite2 (fun hd => ?_) (fun hd => ?_)
      · have hd : free part + n < part.length := by
          have : ((free part + n : Nat) : Int) < (part.length : Int) := by simpa using hd
          omega
        have hg := List.getElem?_eq_getElem hd
        refine ⟨_, rfl, _, rfl, a, _, _, _, rfl, rfl, hS, atI_nat (map_at hg), rfl, ?_⟩
        have e : fitsB part n = decide (V.int part[free part + n] = V.int 0) := by
          rw [fitsB_eq, hc, Bool.true_and]
          unfold okAt
          rw [decide_eq_true hd, Bool.true_and, List.getD_eq_getElem?_getD, hg, Option.getD_some]
          by_cases z : part[free part + n] = 0 <;> simp [z]
        rw [← e]; exact q
      · have hd : ¬ free part + n < part.length := by
          have : ¬ ((free part + n : Nat) : Int) < (part.length : Int) := by simpa using hd
          omega
        have e : fitsB part n = false := by
          rw [fitsB_eq, hc, Bool.true_and]
          unfold okAt
          rw [decide_eq_false hd, Bool.false_and]
        rw [← e]; exact q
    · have hc : (!(part.contains (n : Int))) = false := by simpa using hc
      have e : fitsB part n = false := by
        rw [fitsB_eq, hc, Bool.false_and]
      rw [← e]; exact q
theorem sc_carried : FnScope ["part", "first", "size"] ["part"] (defScope s_carried_on) := ⟨rfl, rfl, rfl, by decide +kernel, rfl, by decide +kernel, by decide +kernel⟩
theorem ok_carried (D : Def K mg "carried_on" s_carried_on ["part"]) (B : Bn mg) (C1 : Cal P w K mg base 1 "fits" ["part", "number", "first"] (spFits K)) (C2 : Cal P w K mg base 1 "with_number" ["part", "number", "first"] (spWith K)) :
    Cal P w K mg base 2 "carried_on" ["part"] spCarried := by
  refine D.ok sc_carried (fun vs H Q E h => ?_) (fun f cdv A outer s H vs Q E hr h => ?_)
  · obtain ⟨a, part, rfl, _⟩ := h
    rfl
  · obtain ⟨a, part, rfl, hS, h0, hl, q⟩ := h
    have nd3 : List.Nodup [("number" : Str), "part", "first"] := by decide +kernel
    refine ⟨_, pss_cons (ps_set (i := 1) sc_carried.nd rfl (Or.inr rfl) (pe_bm PySem.F.plainAttrs_list PySem.F.slot_list_index PySem.F.type_list_index mt_index (pv 0) (pa_cons pe_int pa_nil)))
      (pss_cons (ps_set (i := 2) sc_carried.nd rfl (Or.inl rfl) (pe_op op_fdiv (pe_callB call_len_seq (by rfl) B.len PySem.boot_len (pa_cons (pv 0) pa_nil)) pe_int))
      (pss_one (ps_ret (pe_comp (T := ["number"]) (F := [("part", 0), ("first", 1)]) rfl ⟨rfl, by decide +kernel, by decide +kernel, rfl, ⟨⟨rfl, rfl, by decide +kernel, rfl⟩, ⟨rfl, rfl, by decide +kernel, rfl⟩, trivial⟩⟩
        (pi_range2 rfl B.range (pa_cons pe_int (pa_cons (pe_op op_add (pv 2) pe_int) pa_nil)))
        (fun C s' H' fp => ⟨pg_name (i := 0) nd3 rfl (Or.inl rfl), pifs_one (pt_val (pe_fn C1 hr (pa_cons (pv 1) (pa_cons (pv 0) (pa_cons (pv 2) pa_nil))))),
          pe_fn C2 hr (pa_cons (pv 1) (pa_cons (pv 0) (pa_cons (pv 2) pa_nil)))⟩))))), ?_⟩
    obtain ⟨g1, g2⟩ := free_get h0
    have el : (((part.map V.int).length : Nat) : Int) = (part.length : Int) := by rw [List.length_map]
    refine ⟨_, rfl, .inl ⟨rfl, _, SqL.of hS⟩, a, _, _, free part, .int 0, rfl, rfl, SqL.of hS, rfl, flat_ints part, map_at g1, rfl, fun m hm z' hz => ?_, ?_⟩
    · obtain ⟨z, hz2, rfl⟩ := map_get hz
      have : z ≠ 0 := fun e => g2 m hm (by rw [hz2, e])
      show (z == 0) = false
      simpa using this
    refine ⟨_, rfl, a, _, rfl, .inl (SqL.of hS), _, _, rfl, rfl, ⟨by decide, by decide⟩, ?_⟩
    obtain ⟨sz, esz⟩ : ∃ sz : Nat, sz = part.length / 2 := ⟨_, rfl⟩
    have e1 : (((part.map V.int).length : Nat) : Int) / 2 = (sz : Int) := by rw [el]; omega
    rw [show (fun (i j : Int) => V.int (i / j)) (((part.map V.int).length : Nat) : Int) 2 = V.int (sz : Int) from congrArg V.int e1]
    refine ⟨_, rfl, _, _, rfl, rfl, 1, (sz : Int) + 1, rfl, ⟨by omega, by omega, by omega, by omega⟩, fun l hn => ?_⟩
    have en : ((sz : Int) + 1 - 1).toNat = sz := by omega
    rw [en]
    refine comp_range (lo := 1) (n := sz) (fun i σ ys H3 => ∃ v, σ = [v, some (.ref a), some (.int (free part))] ∧ Same H H3 ∧ H3 l = some (.lst ys) ∧ LL (fun p => H p = none ∧ p ≠ l) H3 ys (carryTo part i))
      ⟨none, rfl, same_upd (Same.refl _) hn, upd_same, .nil⟩ ?_ ?_
    · rintro i σ ys H3 hi ⟨v, rfl, s3, hl3, ll⟩
      have ei : (1 : Int) + (i : Int) = ((i + 1 : Nat) : Int) := by omega
      rw [ei]
      refine ⟨_, rfl, _, rfl, _, rfl, a, part, i + 1, rfl, s3.seq (SqL.of hS), _, rfl, ?_⟩
      refine ite2 (fun hc => ?_) (fun hc => ?_)
      · have hok : okAt part (i + 1) = true := by
          rw [fitsB_eq, Bool.and_eq_true] at hc; exact hc.2
        have hlt : free part + (i + 1) < part.length := (List.getElem?_eq_some_iff.mp (okAt_get hok)).1
        refine ⟨_, rfl, _, rfl, _, rfl, a, part, i + 1, free part, rfl, s3.seq (SqL.of hS), hlt, fun p H4 hp0 hp s4 => ?_⟩
        have hpl : p ≠ l := Ne.symm (ne_of_none hl3 hp0)
        refine ⟨s4 _ _ hl3, small1000 (by have := ll.len; have := carryTo_len part i; omega), _, rfl, same_upd (s3.trans s4) hn, upd_same, ?_⟩
        rw [carryTo_succ, if_pos hc]
        exact (LL.snoc (ll.same s4) ⟨s3.free hp0, hpl⟩ hp).upd fun z => z.2 rfl
      · refine ⟨_, rfl, s3, hl3, ?_⟩
        rw [carryTo_succ, if_neg hc, List.append_nil]
        exact ll
    · rintro σ ys H3 ⟨v, rfl, s3, hl3, ll⟩
      rw [esz] at ll
      exact q l ys H3 hn hl3 ll s3
theorem sc_allRows : FnScope ["size", "begun", "step", "longer", "part"] ["size"] (defScope s_all_rows) := ⟨rfl, rfl, rfl, by decide +kernel, rfl, by decide +kernel, by decide +kernel⟩
theorem ok_allRows (D : Def K mg "all_rows" s_all_rows ["size"]) (B : Bn mg) (C1 : Cal P w K mg base 2 "carried_on" ["part"] spCarried) : Cal P w K mg base 3 "all_rows" ["size"] spAllRows := by
  refine D.ok sc_allRows (fun vs H Q E h => ?_) (fun f cdv A outer s H vs Q E hr h => ?_)
  · obtain ⟨s, rfl, _⟩ := h
    rfl
  · obtain ⟨sz, rfl, h1, h2, q⟩ := h
    refine ⟨_, pss_cons (ps_set (i := 1) sc_allRows.nd rfl (Or.inl rfl) (pe_lst (pa_cons (pe_op op_rep (pe_lst (pa_cons pe_int pa_nil)) (pe_op op_mul pe_int (pv 0))) pa_nil)))
      (pss_cons (ps_for PassesOwn.never rfl (pi_range1 rfl B.range (pa_cons (pv 0) pa_nil)) (pg_name (i := 2) sc_allRows.nd rfl (Or.inl rfl))
        (pss_cons (ps_set (i := 3) sc_allRows.nd rfl (Or.inl rfl) (pe_lst pa_nil))
        (pss_cons (ps_for PassesOwn.never rfl (pi_list (pv 1)) (pg_name (i := 4) sc_allRows.nd rfl (Or.inl rfl))
          (pss_one (ps_expr (pe_bm PySem.F.plainAttrs_list PySem.F.slot_list_extend PySem.F.type_list_extend mt_extend (pv 3) (pa_cons (pe_fn C1 hr (pa_cons (pv 4) pa_nil)) pa_nil)))))
        (pss_one (ps_set (i := 1) sc_allRows.nd rfl (Or.inl rfl) (pv 3))))))
      (pss_one (ps_ret (pv 1)))), ?_⟩
    have one : 1 ≤ sizeLine := by rw [sizeLine_eq]; decide
    refine ⟨one, fun l0 hl0 => ?_⟩
    have ez : 2 * (sz : Int) = ((2 * sz : Nat) : Int) := by omega
    have etn : (((2 * sz : Nat) : Int)).toNat = 2 * sz := by omega
    refine ⟨_, rfl, _, _, rfl, rfl, .inl ⟨by decide, by decide⟩, l0, _, _, rfl, congrArg V.int ez, upd_same, by omega, by omega, ?_, fun l1 hl1 => ?_⟩
    · rw [etn, List.length_singleton, Nat.one_mul]; exact Nat.le_of_lt (small1000 (by omega))
    rw [etn]
    refine ⟨one, fun b hb => ?_⟩
    have s1 : Same H (upd (upd (upd H l0 (.lst [V.int 0])) l1 (.lst (List.replicate (2 * sz) [V.int 0]).flatten)) b (.lst [.ref l1])) :=
      (same_upd (Same.refl _) hl0).trans ((same_upd (Same.refl _) hl1).trans (same_upd (Same.refl _) hb))
    have h0 : upd (upd (upd H l0 (.lst [V.int 0])) l1 (.lst (List.replicate (2 * sz) [V.int 0]).flatten)) b (.lst [.ref l1]) l1 = some (.lst ((List.replicate (2 * sz) (0 : Int)).map V.int)) := by
      rw [upd_ne (ne_of_none upd_same hb), upd_same, map_rep]
    have hb0 : H b = none := ((same_upd (o := .lst [V.int 0]) (Same.refl _) hl0).trans (same_upd (Same.refl _) hl1)).free hb
    have hl10 : H l1 = none := (same_upd (o := .lst [V.int 0]) (Same.refl _) hl0).free hl1
    have nb : l1 ≠ b := ne_of_none (upd_same (H := upd H l0 (.lst [V.int 0])) (a := l1)) hb
    have hbb : upd (upd (upd H l0 (.lst [V.int 0])) l1 (.lst (List.replicate (2 * sz) [V.int 0]).flatten)) b (.lst [.ref l1]) b = some (.lst [.ref l1]) := upd_same
    generalize upd (upd (upd H l0 (.lst [V.int 0])) l1 (.lst (List.replicate (2 * sz) [V.int 0]).flatten)) b (.lst [.ref l1]) = H1 at *
    refine ⟨_, rfl, _, rfl, by omega, by omega, ?_⟩
    have ets : ((sz : Int)).toNat = sz := by omega
    rw [ets]
    refine for_range (lo := 0) (n := sz) (fun k σ H2 => ∃ (v2 v3 v4 : Option V) (b : Addr) (xs : List V), σ = [some (.int sz), some (.ref b), v2, v3, v4] ∧ Same H H2 ∧ H b = none ∧ H2 b = some (.lst xs) ∧ LL (fun p => H p = none ∧ p ≠ b) H2 xs (allRows sz k))
      ⟨none, none, none, b, _, rfl, s1, hb0, hbb, .cons ⟨l1, rfl, ⟨hl10, nb⟩, h0⟩ .nil⟩ ?_ ?_
    · rintro k σ H2 hk ⟨v2, v3, v4, b, xs, rfl, s2, hb0, hb, ll⟩
      refine ⟨by show 0 ≤ sizeLine; exact Nat.zero_le _, fun l hl => ?_⟩
      have s3 := same_upd (o := .lst []) (Same.refl _) hl
      refine ⟨_, rfl, b, rfl, ⟨_, SqL.of (s3 _ _ hb)⟩, ?_⟩
      have hlH : H l = none := s2.free hl
      refine for_list (K := K) (a := b) (xs := xs) (fun i σ H4 => ∃ (v4 : Option V) (ys : List V), σ = [some (.int sz), some (.ref b), some (.int (0 + (k : Int))), some (.ref l), v4] ∧ Same H2 H4 ∧ H4 l = some (.lst ys) ∧ LL (fun p => H p = none ∧ p ≠ l) H4 ys (((allRows sz k).take i).flatMap carry))
        ⟨v4, [], rfl, s3, upd_same, .nil⟩ (fun i σ H4 _ ⟨_, _, _, s4, _⟩ => SqL.of (s4 _ _ hb)) ?_ ?_
      · rintro i x σ H4 hi ⟨v4, ys, rfl, s4, hl4, ll4⟩
        obtain ⟨p, part, rfl, hp, hH, ep⟩ := ll.get hi
        obtain ⟨c1, c2⟩ := allRows_mem sz k (by omega) part (List.mem_of_getElem? ep)
        have z0 : (0 : Int) ∈ part := List.count_pos_iff.mp (by omega)
        refine ⟨_, rfl, .inl ⟨rfl, _, SqL.of hl4⟩, _, rfl, p, part, rfl, s4 _ _ hH, z0, by omega, fun m zs H5 hm0 hm llm s5 => ?_⟩
        have hlen := llm.len
        have hlen4 := ll4.len
        have est := flat_step carry ep
        have hsz : ys.length + zs.length ≤ sizeLine := by
          have h5 : (((allRows sz k).take (i + 1)).flatMap carry).length ≤ (allRows sz (k + 1)).length := flat_take carry (allRows sz k) (i + 1)
          have h6 := allRows_len sz h2 (k + 1) (by omega)
          have h7 := small8 (k := k + 1) (by omega)
          rw [est, List.length_append] at h5
          omega
        refine ⟨l, m, _, _, rfl, rfl, s5 _ _ hl4, hm, hsz, _, _, rfl, ?_, upd_same, ?_⟩
        · exact same_upd (s4.trans s5) hl
        · rw [est]
          refine LL.upd (LL.app (ll4.same s5) (llm.imp fun p' o hp' hq => ?_)) fun z => z.2 rfl
          exact ⟨s2.free (s4.free hq.1), fun z => by rw [z, hl4] at hq; cases hq.1⟩
      · rintro σ H4 ⟨v4, ys, rfl, s4, hl4, ll4⟩
        refine ⟨_, rfl, _, _, _, l, ys, rfl, s2.trans s4, hlH, hl4, ?_⟩
        rw [ll.len, List.take_length] at ll4
        exact ll4
    · rintro σ H2 ⟨v2, v3, v4, b, xs, rfl, s2, hb0, hb, ll⟩
      exact ⟨_, rfl, q b xs H2 hb0 hb ll s2⟩
theorem sc_many : FnScope ["size"] ["size"] (defScope s_many) := ⟨rfl, rfl, rfl, by decide +kernel, rfl, by decide +kernel, by decide +kernel⟩
theorem ok_many {tk : Tok} (D : Def K mg "many" s_many ["size"]) (B : Bn mg) (hG : mg "GREATEST_COUNTED" = some (.int 8 tk)) (C1 : Cal P w K mg base 1 "check_size" ["size", "greatest"] spCheck) (C2 : Cal P w K mg base 3 "all_rows" ["size"] spAllRows) : Cal P w K mg base 4 "many" ["size"] spMany := by
  refine D.ok sc_many (fun vs H Q E h => ?_) (fun f cdv A outer s H vs Q E hr h => ?_)
  · obtain ⟨n, rfl, _⟩ := h
    rfl
  · obtain ⟨n, rfl, h1, h2, q⟩ := h
    refine ⟨_, pss_cons (ps_expr (pe_fn C1 (hr.mono (by decide)) (pa_cons (pv 0) (pa_cons (pe_glob (v := .int 8) (by rfl) hG ⟨_, rfl⟩) pa_nil))))
      (pss_one (ps_ret (pe_callB call_len_seq (by rfl) B.len PySem.boot_len (pa_cons (pe_fn C2 hr (pa_cons (pv 0) pa_nil)) pa_nil)))), ?_⟩
    refine ⟨_, rfl, n, 8, rfl, by omega, by omega, _, rfl, n, rfl, h1, h2, fun l xs H' hl0 hl ll s1 => ⟨l, xs, rfl, .inl (SqL.of hl), ?_⟩⟩
    rw [ll.len]
    exact q H' s1
theorem sc_rows : FnScope ["size"] ["size"] (defScope s_rows) := ⟨rfl, rfl, rfl, by decide +kernel, rfl, by decide +kernel, by decide +kernel⟩
theorem ok_rows {tk : Tok} (D : Def K mg "rows" s_rows ["size"]) (B : Bn mg) (hG : mg "GREATEST_TOLD" = some (.int 5 tk)) (C1 : Cal P w K mg base 1 "check_size" ["size", "greatest"] spCheck) (C2 : Cal P w K mg base 3 "all_rows" ["size"] spAllRows) : Cal P w K mg base 4 "rows" ["size"] spRows := by
  refine D.ok sc_rows (fun vs H Q E h => ?_) (fun f cdv A outer s H vs Q E hr h => ?_)
  · obtain ⟨n, rfl, _⟩ := h
    rfl
  · obtain ⟨n, rfl, h1, h2, q⟩ := h
    refine ⟨_, pss_cons (ps_expr (pe_fn C1 (hr.mono (by decide)) (pa_cons (pv 0) (pa_cons (pe_glob (v := .int 5) (by rfl) hG ⟨_, rfl⟩) pa_nil))))
      (pss_one (ps_ret (pe_fn C2 hr (pa_cons (pv 0) pa_nil)))), ?_⟩
    exact ⟨_, rfl, n, 5, rfl, by omega, by omega, _, rfl, n, rfl, h1, by omega, q⟩
end
end Law
namespace Law
open PySem L2 SA
seal PE PA PT PW PS PSs PG PGs PI PC PIfs PSet OpR UnR CallR IxR SlR PO
section
variable {P : Program} {w : World} {K : PySem.W.Frag} {mg : Str → Option Value} {base : Heap}
theorem sc_contrary : FnScope ["row"] ["row"] (defScope s_contrary) := ⟨rfl, rfl, rfl, by decide +kernel, rfl, by decide +kernel, by decide +kernel⟩
theorem ok_contrary (D : Def K mg "contrary" s_contrary ["row"]) (B : Bn mg) (C1 : Cal P w K mg base 3 "check_row" ["row"] spCrow) : Cal P w K mg base 4 "contrary" ["row"] spContrary := by
  refine D.ok sc_contrary (fun vs H Q E h => ?_) (fun f cdv A outer s H vs Q E hr h => ?_)
  · obtain ⟨a, row, rfl, _⟩ := h
    rfl
  · obtain ⟨a, row, rfl, hS, hl, hrow, q⟩ := h
    refine ⟨_, pss_cons (ps_expr (pe_fn C1 hr (pa_cons (pv 0) pa_nil))) (pss_one (ps_ret (pe_listRev rfl (pv 0) (by rfl) B.list (by rfl) B.reversed))), ?_⟩
    refine ⟨_, rfl, a, row, rfl, hS, hl, hrow, fun H1 s1 => ?_⟩
    refine ⟨_, rfl, a, _, rfl, s1 _ _ hS, fun p hp => q p _ (s1.free hp) (by rw [upd_same, List.map_reverse]) (same_upd s1 (s1.free hp))⟩
theorem sc_places : FnScope ["row", "found"] ["row"] (defScope s_places) := ⟨rfl, rfl, rfl, by decide +kernel, rfl, by decide +kernel, by decide +kernel⟩
theorem ok_places (D : Def K mg "places" s_places ["row"]) (B : Bn mg) (C1 : Cal P w K mg base 3 "check_row" ["row"] spCrow) (C2 : Cal P w K mg base 1 "found_places" ["row"] spFound) : Cal P w K mg base 4 "places" ["row"] spPlaces := by
  refine D.ok sc_places (fun vs H Q E h => ?_) (fun f cdv A outer s H vs Q E hr h => ?_)
  · obtain ⟨a, row, sz, rfl, _⟩ := h
    rfl
  · obtain ⟨a, row, sz, rfl, hS, h1, h2, hrow, q⟩ := h
    have hu := hu_of hr
    have hl := hrow.1
    have nd1 : List.Nodup [("number" : Str), "found"] := by decide +kernel
    refine ⟨_, pss_cons (ps_expr (pe_fn C1 hr (pa_cons (pv 0) pa_nil)))
      (pss_cons (ps_set (i := 1) sc_places.nd rfl (Or.inr rfl) (pe_fn C2 (hr.mono (by decide)) (pa_cons (pv 0) pa_nil)))
      (pss_one (ps_ret (pe_comp (T := ["number"]) (F := [("found", 1)]) rfl ⟨rfl, by decide +kernel, by decide +kernel, rfl, ⟨⟨rfl, rfl, by decide +kernel, rfl⟩, trivial⟩⟩
        (pi_range2 rfl B.range (pa_cons pe_int (pa_cons (pe_op op_add (pe_op op_fdiv (pe_callB call_len_seq (by rfl) B.len PySem.boot_len (pa_cons (pv 0) pa_nil)) pe_int) pe_int) pa_nil)))
        (fun C s' H' fp => ⟨pg_name (i := 0) nd1 rfl (Or.inl rfl), pifs_nil, pe_callTy (call_tuple_ofK (K := K) rfl) (by rfl) B.tuple PyProof.Rows.boot_tuple (pa_cons (pe_dget hu (pv 1) (pv 0) (fun _ _ => rfl)) pa_nil)⟩))))), ?_⟩
    refine ⟨_, rfl, a, row, rfl, hS, by omega, ⟨sz, h1, h2, hrow⟩, fun H1 s1 => ?_⟩
    refine ⟨_, rfl, a, row, rfl, s1 _ _ hS, by omega, fun d kvs H2 F => ?_⟩
    have s2 : Same H H2 := s1.trans F.sm
    have en : (((row.map V.int).length : Nat) : Int) / 2 + 1 = (sz : Int) + 1 := by rw [List.length_map]; omega
    refine ⟨_, rfl, a, _, rfl, .inl (SqL.of (s2 _ _ hS)), _, _, rfl, rfl, ⟨by decide, by decide⟩, _, _, rfl, rfl, 1, (sz : Int) + 1, congrArg (fun x => [V.int 1, V.int x]) en, ⟨by omega, by omega, by omega, by omega⟩, fun l hn => ?_⟩
    have en2 : ((sz : Int) + 1 - 1).toNat = sz := by omega
    rw [en2]
    refine comp_range (lo := 1) (n := sz) (fun i σ ys H3 => ∃ v, σ = [v, some (.ref d)] ∧ Same H2 H3 ∧ H3 l = some (.lst ys) ∧ TL H3 ys (allPl row i)) ⟨none, rfl, same_upd (Same.refl _) hn, upd_same, .nil⟩ ?_ ?_
    · rintro i σ ys H3 hi ⟨v, rfl, s3, hl3, tl⟩
      refine comp_yes ?_
      obtain ⟨p, ep⟩ := hrow.2 (i + 1) (by omega) (by omega)
      have ei : ((i + 1 : Nat) : Int) = 1 + (i : Int) := by omega
      rw [ei] at ep
      obtain ⟨l2, g1, g2, g3⟩ := F.ye (1 + (i : Int)) (by rw [ep]; simp)
      have hg := DGet.k (k := (Sum.inl (1 + (i : Int)) : Key)) (s3 _ _ F.dc)
      rw [g1] at hg
      refine ⟨_, rfl, _, rfl, d, _, rfl, hg, l2, _, rfl, .inl ⟨SqL.of (s3 _ _ g3), fun t ht => ?_⟩⟩
      have s4 := same_upd (o := .tup ((plc row 0 (1 + (i : Int))).map V.int)) (Same.refl _) ht
      have hl4 := s4 _ _ hl3
      refine ⟨hl4, small1000 (by have := tl.len; unfold allPl at this; rw [List.length_map, List.length_range] at this; omega), _, rfl, same_upd (s3.trans s4) hn, upd_same, ?_⟩
      have tl4 : TL (upd H3 t (.tup ((plc row 0 (1 + (i : Int))).map V.int))) (ys ++ [.ref t]) (allPl row i ++ [plc row 0 (1 + (i : Int))]) := (tl.same s4).snoc upd_same
      have ea : allPl row (i + 1) = allPl row i ++ [plc row 0 (1 + (i : Int))] := by
        unfold allPl
        rw [List.range_succ, List.map_append]; rfl
      rw [ea]
      exact tl4.upd fun ys' z => by rw [hl4] at z; cases z
    · rintro σ ys H3 ⟨v, rfl, s3, hl3, tl⟩
      exact q l ys H3 (s2.free hn) hl3 tl (s2.trans s3)
end
end Law
namespace Law
open PySem L2 SA
seal PE PA PT PW PS PSs PG PGs PI PC PIfs PSet OpR UnR CallR IxR SlR PO
section
variable {P : Program} {w : World} {K : PySem.W.Frag} {mg : Str → Option Value} {base : Heap}
theorem sc_people : FnScope ["row"] ["row"] (defScope s_people) := ⟨rfl, rfl, rfl, by decide +kernel, rfl, by decide +kernel, by decide +kernel⟩
theorem ok_people (D : Def K mg "people" s_people ["row"]) (B : Bn mg) (C1 : Cal P w K mg base 3 "check_row" ["row"] spCrow) : Cal P w K mg base 4 "people" ["row"] spPeople := by
  refine D.ok sc_people (fun vs H Q E h => ?_) (fun f cdv A outer s H vs Q E hr h => ?_)
  · obtain ⟨a, row, sz, rfl, _⟩ := h
    rfl
  · obtain ⟨a, row, sz, rfl, ha, s1, s4, hrow, q⟩ := h
    have hl := hrow.1
    refine ⟨_, pss_cons (ps_expr (pe_fn C1 hr (pa_cons (pv 0) pa_nil))) (pss_one (ps_ret (pe_op op_add (pe_op op_mul pe_int (pe_op op_fdiv (pe_callB call_len_seq (by rfl) B.len PySem.boot_len (pa_cons (pv 0) pa_nil)) pe_int)) pe_int))), ?_⟩
    refine ⟨_, rfl, a, row, rfl, ha, by omega, ⟨sz, s1, s4, hrow⟩, fun H1 e1 => ?_⟩
    refine ⟨_, rfl, a, _, rfl, .inl (SqL.of (e1 _ _ ha)), _, _, rfl, rfl, ⟨by decide, by decide⟩, _, _, rfl, rfl, .inl ⟨by decide, by decide⟩, _, _, rfl, rfl, ?_⟩
    have en : (6 : Int) * ((((row.map V.int).length : Nat) : Int) / 2) + 1 = 6 * (sz : Int) + 1 := by rw [List.length_map]; omega
    have := q H1 e1
    rw [← en] at this
    exact this
theorem sc_isPerson : FnScope ["person", "count"] ["person", "count"] (defScope s_is_person) := ⟨rfl, rfl, rfl, by decide +kernel, rfl, by decide +kernel, by decide +kernel⟩
theorem ok_isPerson (D : Def K mg "is_person" s_is_person ["person", "count"]) : Cal P w K mg base 1 "is_person" ["person", "count"] spIsPerson := by
  refine D.ok sc_isPerson (fun vs H Q E h => ?_) (fun f cdv A outer s H vs Q E hr h => ?_)
  · obtain ⟨x, c, rfl, _⟩ := h
    rfl
  · obtain ⟨x, c, rfl, q⟩ := h
    refine ⟨_, pss_one (ps_ret (pe_and (pe_cmpR op_ge (pv 0) pe_int (nomark _)) (pe_one (pe_cmpR op_lt (pv 0) (pv 1) (nomark _))))), ?_⟩
    refine ⟨_, rfl, _, _, rfl, rfl, _, rfl, ?_⟩
    refine ite2 (fun hc => ?_) (fun hc => ?_)
    · have hc : 0 ≤ x := by simpa using hc
      refine ⟨_, rfl, _, rfl, _, _, rfl, rfl, ?_⟩
      have e : decide (x < c) = decide (0 ≤ x ∧ x < c) := by simp [hc]
      show Q (.bl (decide (x < c))) H
      rw [e]; exact q
    · have hc : ¬ 0 ≤ x := by simpa using hc
      rw [decide_eq_false (fun z => hc z.1)] at q
      exact q
theorem sc_twoP : FnScope ["one", "other", "count"] ["one", "other", "count"] (defScope s_are_two_people) := ⟨rfl, rfl, rfl, by decide +kernel, rfl, by decide +kernel, by decide +kernel⟩
theorem ok_twoP (D : Def K mg "are_two_people" s_are_two_people ["one", "other", "count"]) (C1 : Cal P w K mg base 1 "is_person" ["person", "count"] spIsPerson) : Cal P w K mg base 2 "are_two_people" ["one", "other", "count"] spTwoP := by
  refine D.ok sc_twoP (fun vs H Q E h => ?_) (fun f cdv A outer s H vs Q E hr h => ?_)
  · obtain ⟨x, y, c, rfl, _⟩ := h
    rfl
  · obtain ⟨x, y, c, rfl, q⟩ := h
    refine ⟨_, pss_one (ps_ret (pe_and (pe_fn C1 hr (pa_cons (pv 0) (pa_cons (pv 2) pa_nil))) (pe_and (pe_fn C1 hr (pa_cons (pv 1) (pa_cons (pv 2) pa_nil))) (pe_one (pe_cmpR op_ne (pv 0) (pv 1) (nomark _)))))), ?_⟩
    refine ⟨_, rfl, _, rfl, x, c, rfl, _, rfl, ?_⟩
    refine ite2 (fun hc => ?_) (fun hc => ?_)
    · have hc1 := of_decide_eq_true hc
      refine ⟨_, rfl, _, rfl, y, c, rfl, _, rfl, ?_⟩
      refine ite2 (fun hc => ?_) (fun hc => ?_)
      · have hc2 := of_decide_eq_true hc
        refine ⟨_, rfl, _, rfl, rfl, ?_⟩
        have e : (!decide (V.int x = V.int y)) = decide ((0 ≤ x ∧ x < c) ∧ (0 ≤ y ∧ y < c) ∧ x ≠ y) := by
          by_cases z : x = y
          · subst z; simp
          · have : ¬ V.int x = V.int y := fun h => z (by injection h)
            simp [z, this, hc1, hc2]
        rw [e]; exact q
      · have hc2 : ¬ (0 ≤ y ∧ y < c) := fun z => hc (decide_eq_true z)
        rw [decide_eq_false (fun z => hc2 z.2.1)] at q
        exact q
    · have hc1 : ¬ (0 ≤ x ∧ x < c) := fun z => hc (decide_eq_true z)
      rw [decide_eq_false (fun z => hc1 z.1)] at q
      exact q
theorem sc_base : FnScope ["row", "number", "second"] ["row", "number"] (defScope s_base_group) := ⟨rfl, rfl, rfl, by decide +kernel, rfl, by decide +kernel, by decide +kernel⟩
theorem ok_base (D : Def K mg "base_group" s_base_group ["row", "number"]) (B : Bn mg) : Cal P w K mg base 1 "base_group" ["row", "number"] spBase := by
  refine D.ok sc_base (fun vs H Q E h => ?_) (fun f cdv A outer s H vs Q E hr h => ?_)
  · obtain ⟨a, row, sz, n, e, rfl, _⟩ := h
    rfl
  · obtain ⟨a, row, sz, n, e, rfl, ha, s4, hrow, b, q⟩ := h
    have hl := hrow.1
    have rg := b.range hrow
    refine ⟨_, pss_cons (ps_set (i := 2) sc_base.nd rfl (Or.inl rfl) (pe_op op_add (pe_bm PySem.F.plainAttrs_list PySem.F.slot_list_index PySem.F.type_list_index mt_index (pv 0) (pa_cons (pv 1) pa_nil)) (pv 1)))
      (pss_one (ps_ret (pe_tup (pa_cons pe_int (pa_cons (pv 1) (pa_cons (pe_op op_add (pe_op op_add (pe_op op_fdiv (pe_callB call_len_seq (by rfl) B.len PySem.boot_len (pa_cons (pv 0) pa_nil)) pe_int) (pv 2)) pe_int) pa_nil)))))), ?_⟩
    have hj := (b.at (e - n - sz - 1).toNat).mpr (.inl (by omega))
    refine ⟨_, rfl, .inl ⟨rfl, _, SqL.of ha⟩, _, rfl, a, _, _, (e - n - sz - 1).toNat, _, rfl, rfl, SqL.of ha, rfl, flat_ints row, map_at hj, by simp [eqV], fun m hm z' hz' => ?_, ?_⟩
    · obtain ⟨z, hz, rfl⟩ := map_get hz'
      have : ¬ z = n := fun hzn => by
        subst hzn
        have := (b.at m).mp hz
        omega
      simp [eqV, this]
    refine ⟨_, rfl, _, _, rfl, rfl, ?_⟩
    refine ⟨_, rfl, _, rfl, a, _, rfl, .inl (SqL.of ha), _, _, rfl, rfl, ⟨by decide, by decide⟩, _, rfl, _, _, rfl, rfl, _, _, rfl, rfl, by show 3 ≤ sizeLine; rw [sizeLine_eq]; decide, fun p hp => ?_⟩
    have en : (((row.map V.int).length : Nat) : Int) / 2 + ((((e - n - sz - 1).toNat : Nat) : Int) + n) + 1 = e := by rw [List.length_map]; omega
    have := q p hp
    rw [← en] at this
    exact this
theorem sc_turned : FnScope ["three", "step", "count"] ["three", "step", "count"] (defScope s_turned) := ⟨rfl, rfl, rfl, by decide +kernel, rfl, by decide +kernel, by decide +kernel⟩
theorem ok_turned (D : Def K mg "turned" s_turned ["three", "step", "count"]) (B : Bn mg) (hS : mg "sorted" = none) : Cal P w K mg base 1 "turned" ["three", "step", "count"] spTurned := by
  refine D.ok sc_turned (fun vs H Q E h => ?_) (fun f cdv A outer s H vs Q E hr h => ?_)
  · obtain ⟨p, x, y, z, t, c, rfl, _⟩ := h
    rfl
  · obtain ⟨p, x, y, z, t, c, rfl, hp, hc, q⟩ := h
    have nd1 : List.Nodup [("person" : Str), "step", "count"] := by decide +kernel
    refine ⟨_, pss_one (ps_ret (pe_callTy call_tuple_of (by rfl) B.tuple PyProof.Rows.boot_tuple (pa_cons (pe_callB call_sortI (by rfl) hS PyProof.Rows.boot_sorted (pa_cons
      (pe_comp (T := ["person"]) (F := [("step", 1), ("count", 2)]) rfl ⟨rfl, by decide +kernel, by decide +kernel, rfl, ⟨⟨rfl, rfl, by decide +kernel, rfl⟩, ⟨rfl, rfl, by decide +kernel, rfl⟩, trivial⟩⟩ (pi_tup (pv 0))
        (fun C s' H' fp => ⟨pg_name (i := 0) nd1 rfl (Or.inl rfl), pifs_nil, pe_op op_mod (pe_op op_add (pv 0) (pv 1)) (pv 2)⟩)) pa_nil)) pa_nil))), ?_⟩
    refine ⟨_, rfl, p, rfl, ⟨_, SqT.of hp⟩, fun lc hlc => ?_⟩
    refine comp_tup (K := K) (a := p) (xs := [x, y, z].map V.int) (fun k σ ys H9 => ∃ v, σ = [v, some (.int t), some (.int c)] ∧ Same H H9 ∧ H9 lc = some (.lst ys) ∧ ys = ([x, y, z].take k).map fun m => V.int ((m + t) % c)) ⟨none, rfl, same_upd (Same.refl _) hlc, upd_same, rfl⟩ (fun k σ ys H9 _ ⟨_, _, s9, _⟩ => SqT.of (s9 _ _ hp)) ?_ ?_
    · rintro k u σ ys H9 hk ⟨v, rfl, s9, hl9, eys⟩
      obtain ⟨m, hm, rfl⟩ := map_get hk
      refine comp_yes ?_
      refine ⟨_, rfl, _, rfl, _, _, rfl, rfl, _, rfl, _, _, rfl, rfl, hc, hl9, ?_, _, rfl, same_upd s9 hlc, upd_same, ?_⟩
      · rw [eys, List.length_map]; exact small1000 (by rw [List.length_take]; simp only [List.length_cons, List.length_nil]; omega)
      · rw [List.take_add_one, hm, List.map_append, eys]; rfl
    · rintro σ ys H9 ⟨v, rfl, s9, hl9, eys⟩
      have eys : ys = [(x + t) % c, (y + t) % c, (z + t) % c].map V.int := eys
      subst eys
      refine ⟨lc, _, rfl, SqL.of hl9, by show 3 < 64; decide, fun l ms hl hpm hpw => ?_⟩
      refine ⟨l, _, rfl, .inl ⟨SqL.of upd_same, fun g hg => ?_⟩⟩
      have s10 : Same H9 (upd H9 l (.lst (ms.map V.int))) := same_upd (Same.refl _) hl
      have s11 : Same _ (upd (upd H9 l (.lst (ms.map V.int))) g (.tup (ms.map V.int))) := same_upd (Same.refl _) hg
      exact q g ms _ ((s9.trans s10).free hg) upd_same ⟨hpm, hpw⟩ ((s9.trans s10).trans s11)
theorem sc_turnedTo : FnScope ["three", "person", "count"] ["three", "person", "count"] (defScope s_turned_to) := ⟨rfl, rfl, rfl, by decide +kernel, rfl, by decide +kernel, by decide +kernel⟩
theorem ok_turnedTo (D : Def K mg "turned_to" s_turned_to ["three", "person", "count"]) (C1 : Cal P w K mg base 1 "turned" ["three", "step", "count"] spTurned) : Cal P w K mg base 2 "turned_to" ["three", "person", "count"] spTurnedTo := by
  refine D.ok sc_turnedTo (fun vs H Q E h => ?_) (fun f cdv A outer s H vs Q E hr h => ?_)
  · obtain ⟨p, x, y, z, t, c, rfl, _⟩ := h
    rfl
  · obtain ⟨p, x, y, z, t, c, rfl, hp, hc, q⟩ := h
    have nd1 : List.Nodup [("member" : Str), "three", "person", "count"] := by decide +kernel
    refine ⟨_, pss_one (ps_ret (pe_comp (T := ["member"]) (F := [("three", 0), ("person", 1), ("count", 2)]) rfl ⟨rfl, by decide +kernel, by decide +kernel, rfl, ⟨⟨rfl, rfl, by decide +kernel, rfl⟩, ⟨rfl, rfl, by decide +kernel, rfl⟩, ⟨rfl, rfl, by decide +kernel, rfl⟩, trivial⟩⟩ (pi_tup (pv 0))
        (fun C s' H' fp => ⟨pg_name (i := 0) nd1 rfl (Or.inl rfl), pifs_nil, pe_fn C1 hr (pa_cons (pv 1) (pa_cons (pe_op op_sub (pv 2) (pv 0)) (pa_cons (pv 3) pa_nil)))⟩))), ?_⟩
    refine ⟨_, rfl, p, rfl, ⟨_, SqT.of hp⟩, fun lc hlc => ?_⟩
    refine comp_tup (K := K) (a := p) (xs := [x, y, z].map V.int) (fun k σ ys H9 => ∃ v, σ = [v, some (.ref p), some (.int t), some (.int c)] ∧ Same H H9 ∧ H9 lc = some (.lst ys) ∧ ∃ ts, TL H9 ys ts ∧ Paired (fun m ms => Rising ((x + (t - m)) % c) ((y + (t - m)) % c) ((z + (t - m)) % c) ms) ([x, y, z].take k) ts)
      ⟨none, rfl, same_upd (Same.refl _) hlc, upd_same, [], .nil, .nil⟩ (fun k σ ys H9 _ ⟨_, _, s9, _⟩ => SqT.of (s9 _ _ hp)) ?_ ?_
    · rintro k u σ ys H9 hk ⟨v, rfl, s9, hl9, ts, tl, pr⟩
      obtain ⟨m, hm, rfl⟩ := map_get hk
      refine comp_yes ?_
      refine ⟨_, rfl, _, rfl, _, rfl, _, _, rfl, rfl, _, rfl, p, x, y, z, t - m, c, rfl, s9 _ _ hp, hc, fun g ms H10 hg hg2 hri s10 => ?_⟩
      have hl10 := s10 _ _ hl9
      refine ⟨hl10, small1000 ?_, _, rfl, same_upd (s9.trans s10) hlc, upd_same, ts ++ [ms], ?_, ?_⟩
      · have h1 := tl.len
        have h2 := Paired.length pr
        rw [h1, ← h2, List.length_take]; simp only [List.length_cons, List.length_nil]; omega
      · exact ((tl.same s10).snoc hg2).upd fun ys' z => by rw [hl10] at z; cases z
      · rw [List.take_add_one, hm]; exact Paired.snoc pr hri
    · rintro σ ys H9 ⟨v, rfl, s9, hl9, ts, tl, pr⟩
      have pr : Paired (fun m ms => Rising ((x + (t - m)) % c) ((y + (t - m)) % c) ((z + (t - m)) % c) ms) [x, y, z] ts := pr
      match ts, tl, pr with
      | _, tl, .cons a0 (.cons a1 (.cons a2 .nil)) => exact q lc ys _ _ _ H9 hlc hl9 tl a0 a1 a2 s9
theorem sc_numStep : FnScope ["row", "step", "size"] ["row", "step"] (defScope s_number_of_step) := ⟨rfl, rfl, rfl, by decide +kernel, rfl, by decide +kernel, by decide +kernel⟩
theorem ok_numStep (D : Def K mg "number_of_step" s_number_of_step ["row", "step"]) (B : Bn mg) : Cal P w K mg base 1 "number_of_step" ["row", "step"] spNumStep := by
  refine D.ok sc_numStep (fun vs H Q E h => ?_) (fun f cdv A outer s H vs Q E hr h => ?_)
  · obtain ⟨a, row, sz, d, n, e, rfl, _⟩ := h
    rfl
  · obtain ⟨a, row, sz, d, n, e, rfl, ha, s4, hrow, b, hd, q⟩ := h
    have hl := hrow.1
    have rg := b.range hrow
    refine ⟨_, pss_cons (ps_set (i := 2) sc_numStep.nd rfl (Or.inl rfl) (pe_op op_fdiv (pe_callB call_len_seq (by rfl) B.len PySem.boot_len (pa_cons (pv 0) pa_nil)) pe_int))
      (pss_cons (ps_if (pt_cmpR op_le (pv 1) (pv 2) (nomark _)) (pss_one (ps_ret (pv 1))) pss_nil)
      (pss_one (ps_ret (pe_ix ix_list (pv 0) (pe_op op_sub (pe_op op_sub (pv 1) (pv 2)) pe_int) (fun _ _ => rfl))))), ?_⟩
    have en : (((row.map V.int).length : Nat) : Int) / 2 = (sz : Int) := by rw [List.length_map]; omega
    refine ⟨_, rfl, a, _, rfl, .inl (SqL.of ha), _, _, rfl, rfl, ⟨by decide, by decide⟩, ?_⟩
    rw [show (fun (i j : Int) => V.int (i / j)) (((row.map V.int).length : Nat) : Int) 2 = V.int (sz : Int) from congrArg V.int en]
    refine ⟨_, rfl, _, rfl, _, _, rfl, rfl, _, rfl, ?_⟩
    refine ite2 (fun hc => ?_) (fun hc => ?_)
    · have hc : d ≤ (sz : Int) := by simpa using hc
      have : d = n := by omega
      subst this
      exact ⟨_, rfl, q⟩
    · have hc : ¬ d ≤ (sz : Int) := by simpa using hc
      have hg := (b.at (d - sz - 1).toNat).mpr (by omega)
      have ei : d - (sz : Int) - 1 = (((d - sz - 1).toNat : Nat) : Int) := by omega
      refine ⟨_, rfl, _, rfl, _, rfl, _, _, rfl, rfl, _, _, rfl, rfl, a, _, _, _, rfl, rfl, SqL.of ha, by rw [ei]; exact atI_nat (map_at hg), q⟩
theorem sc_got : FnScope ["row", "one", "other", "count", "step", "three"] ["row", "one", "other", "count"] (defScope s_group_of_two) := ⟨rfl, rfl, rfl, by decide +kernel, rfl, by decide +kernel, by decide +kernel⟩
theorem ok_got (D : Def K mg "group_of_two" s_group_of_two ["row", "one", "other", "count"]) (B : Bn mg) (C1 : Cal P w K mg base 1 "base_group" ["row", "number"] spBase) (C2 : Cal P w K mg base 1 "number_of_step" ["row", "step"] spNumStep) (C3 : Cal P w K mg base 2 "turned_to" ["three", "person", "count"] spTurnedTo) :
    Cal P w K mg base 3 "group_of_two" ["row", "one", "other", "count"] spGot := by
  refine D.ok sc_got (fun vs H Q E h => ?_) (fun f cdv A outer s H vs Q E hr h => ?_)
  · obtain ⟨a, row, sz, x, y, c, rfl, _⟩ := h
    rfl
  · obtain ⟨a, row, sz, x, y, c, rfl, ha, s1, s4, hrow, rfl, x0, x1, y0, y1, hne, q⟩ := h
    have nd1 : List.Nodup [("some" : Str), "other"] := by decide +kernel
    have hr1 := hr.mono (show 1 ≤ 2 by decide)
    refine ⟨_, pss_cons (ps_set (i := 4) sc_got.nd rfl (Or.inl rfl) (pe_callB (call_min2 rfl) (by rfl) B.min PyProof.Rows.boot_min (pa_cons (pe_op op_mod (pe_op op_sub (pv 2) (pv 1)) (pv 3)) (pa_cons (pe_op op_mod (pe_op op_sub (pv 1) (pv 2)) (pv 3)) pa_nil))))
      (pss_cons (ps_set (i := 5) sc_got.nd rfl (Or.inl rfl) (pe_fn C1 hr1 (pa_cons (pv 0) (pa_cons (pe_fn C2 hr1 (pa_cons (pv 0) (pa_cons (pv 4) pa_nil))) pa_nil))))
      (pss_one (ps_ret (pe_ix ix_list (pe_comp (T := ["some"]) (F := [("other", 2)]) rfl ⟨rfl, by decide +kernel, by decide +kernel, rfl, ⟨⟨rfl, rfl, by decide +kernel, rfl⟩, trivial⟩⟩ (pi_list (pe_fn C3 hr (pa_cons (pv 5) (pa_cons (pv 1) (pa_cons (pv 3) pa_nil)))))
        (fun C s' H' fp => ⟨pg_name (i := 0) nd1 rfl (Or.inl rfl), pifs_one (pt_cmpR (op_in_seqK (K := K) rfl) (pv 1) (pv 0) (by rfl)), pv 0⟩)) pe_int (fun _ _ => rfl))))), ?_⟩
    have hv : (0 : Int) < 6 * sz + 1 := by omega
    obtain ⟨d, ed, d1, d3, hy⟩ := step_of x0 x1 y0 y1 hne
    obtain ⟨n, e, b, hd⟩ := diff_ex hrow d1 d3
    refine ⟨_, rfl, _, rfl, _, _, rfl, rfl, _, rfl, _, _, rfl, rfl, hv, _, rfl, _, rfl, _, _, rfl, rfl, _, rfl, _, _, rfl, rfl, hv, _, _, rfl, ?_⟩
    rw [ed]
    refine ⟨_, rfl, _, rfl, _, rfl, a, row, sz, d, n, e, rfl, ha, s4, hrow, b, hd, a, row, sz, n, e, rfl, ha, s4, hrow, b, fun p hp => ?_⟩
    have e1 : Same H (upd H p (.tup [.int 0, .int n, .int e])) := same_upd (Same.refl _) hp
    refine ⟨_, rfl, _, rfl, _, rfl, p, 0, n, e, x, 6 * sz + 1, rfl, upd_same, hv, fun l xs m0 m1 m2 H2 hl0 hl tl r0 r1 r2 e2 => ?_⟩
    refine ⟨l, rfl, ⟨_, SqL.of hl⟩, fun lc hlc => ?_⟩
    refine comp_list (K := K) (a := l) (xs := xs) (fun k σ ys H9 => ∃ v, σ = [v, some (.int y)] ∧ Same H2 H9 ∧ H9 lc = some (.lst ys) ∧ ys = (((xs.zip [m0, m1, m2]).take k).filter fun u => u.2.contains y).map (·.1)) ⟨none, rfl, same_upd (Same.refl _) hlc, upd_same, rfl⟩ (fun k σ ys H9 _ ⟨_, _, s9, _⟩ => SqL.of (s9 _ _ hl)) ?_ ?_
    · rintro k u σ ys H9 hk ⟨v, rfl, s9, hl9, eys⟩
      obtain ⟨g, ms, rfl, hg, hms⟩ := tl.get hk
      have hz : (xs.zip [m0, m1, m2])[k]? = some (V.ref g, ms) := by rw [List.getElem?_zip_eq_some]; exact ⟨hk, hms⟩
      have etk : (xs.zip [m0, m1, m2]).take (k + 1) = (xs.zip [m0, m1, m2]).take k ++ [(V.ref g, ms)] := by rw [List.take_add_one, hz]; rfl
      refine ⟨_, rfl, _, rfl, g, _, rfl, .inr (SqT.of (s9 _ _ hg)), rfl, flat_ints ms, _, rfl, ?_⟩
      show if inV (.int y) (ms.map V.int) = true then _ else _
      rw [inV_ints]
      refine ite2 (fun hc => ?_) (fun hc => ?_)
      · refine ⟨_, rfl, hl9, small1000 ?_, _, rfl, same_upd s9 hlc, upd_same, ?_⟩
        · rw [eys, List.length_map]
          refine Nat.le_trans (List.length_filter_le _ _) ?_
          rw [List.length_take, List.length_zip]; simp only [List.length_cons, List.length_nil]; omega
        · rw [etk, List.filter_append, List.map_append, ← eys, List.filter_cons, if_pos hc]; rfl
      · refine ⟨_, rfl, s9, hl9, ?_⟩
        rw [etk, List.filter_append, List.map_append, ← eys, List.filter_cons, if_neg hc]
        simp
    · rintro σ ys H9 ⟨v, rfl, s9, hl9, eys⟩
      have hlen : xs.length = 3 := tl.len
      rw [List.take_of_length_le (by rw [List.length_zip, hlen]; exact Nat.min_le_left _ _)] at eys
      have has := one_has b hd hy r0 r1 r2
      have hex : ∃ u ∈ xs.zip [m0, m1, m2], u.2.contains y = true := by
        have pick : ∀ (i : Nat) (ms : List Int), [m0, m1, m2][i]? = some ms → y ∈ ms → ∃ u ∈ xs.zip [m0, m1, m2], u.2.contains y = true := fun i ms hi hm => by
          have hi3 : i < 3 := (List.getElem?_eq_some_iff.mp hi).1
          have hx := List.getElem?_eq_getElem (show i < xs.length by omega)
          exact ⟨(xs[i], ms), List.mem_of_getElem? (by rw [List.getElem?_zip_eq_some]; exact ⟨hx, hi⟩), by simpa using hm⟩
        rcases has with h | h | h
        · exact pick 0 m0 rfl h
        · exact pick 1 m1 rfl h
        · exact pick 2 m2 rfl h
      cases ef : (xs.zip [m0, m1, m2]).filter fun u => u.2.contains y with
      | nil =>
        obtain ⟨u, hu, hc⟩ := hex
        have := List.mem_filter (p := fun u : V × List Int => u.2.contains y) |>.mpr ⟨hu, hc⟩
        rw [ef] at this; cases this
      | cons u rest =>
        have hu : u ∈ (xs.zip [m0, m1, m2]).filter fun u => u.2.contains y := by rw [ef]; exact List.mem_cons_self
        obtain ⟨hu, hc⟩ := List.mem_filter.mp hu
        obtain ⟨k, hk⟩ := List.mem_iff_getElem?.mp hu
        obtain ⟨u1, u2⟩ := u
        obtain ⟨k1, k2⟩ := List.getElem?_zip_eq_some.mp hk
        obtain ⟨g, ms, e3, hg, hms⟩ := tl.get k1
        have e3 : u1 = V.ref g := e3
        have k2 : [m0, m1, m2][k]? = some u2 := k2
        subst e3
        rw [hms] at k2
        have k2 : ms = u2 := by injection k2
        subst k2
        have hym : y ∈ ms := by simpa using hc
        rw [ef] at eys
        subst eys
        refine ⟨lc, _, _, _, rfl, rfl, SqL.of hl9, atI_nat (j := 0) rfl, ?_⟩
        have hk3 : k < 3 := (List.getElem?_eq_some_iff.mp hms).1
        have fin : ∀ t : Int, Rising ((0 + t) % (6 * sz + 1)) ((n + t) % (6 * sz + 1)) ((e + t) % (6 * sz + 1)) ms → x ∈ ms → Q (.ref g) H9 := fun t r hx => by
          obtain ⟨z, tz, rz⟩ := tri_of_mem (tri_to b t) r hx hym hne
          exact q z g ms H9 tz rz (s9 _ _ hg) ((e1.trans e2).trans s9)
        have : k = 0 ∨ k = 1 ∨ k = 2 := by omega
        rcases this with rfl | rfl | rfl
        · have : m0 = ms := by injection hms
          subst this
          exact fin _ r0 (by have := (rising_mem r0).1; rw [mod_self x0 x1] at this; exact this)
        · have : m1 = ms := by injection hms
          subst this
          exact fin _ r1 (by have := (rising_mem r1).2.1; rw [mod_self x0 x1] at this; exact this)
        · have : m2 = ms := by injection hms
          subst this
          exact fin _ r2 (by have := (rising_mem r2).2.2; rw [mod_self x0 x1] at this; exact this)
end
end Law
namespace Law
open PySem L2 SA
seal PE PA PT PW PS PSs PG PGs PI PC PIfs PSet OpR UnR CallR IxR SlR PO
section
variable {P : Program} {w : World} {K : PySem.W.Frag} {mg : Str → Option Value} {base : Heap}
theorem sc_group : FnScope ["row", "one", "other", "count"] ["row", "one", "other"] (defScope s_group) := ⟨rfl, rfl, rfl, by decide +kernel, rfl, by decide +kernel, by decide +kernel⟩
theorem ok_group (D : Def K mg "group" s_group ["row", "one", "other"]) (C1 : Cal P w K mg base 4 "people" ["row"] spPeople) (C2 : Cal P w K mg base 2 "are_two_people" ["one", "other", "count"] spTwoP) (C3 : Cal P w K mg base 3 "group_of_two" ["row", "one", "other", "count"] spGot) :
    Cal P w K mg base 5 "group" ["row", "one", "other"] spGroup := by
  refine D.ok sc_group (fun vs H Q E h => ?_) (fun f cdv A outer s H vs Q E hr h => ?_)
  · obtain ⟨a, row, sz, x, y, rfl, _⟩ := h
    rfl
  · obtain ⟨a, row, sz, x, y, rfl, ha, s1, s4, hrow, x0, x1, y0, y1, hne, q⟩ := h
    refine ⟨_, pss_cons (ps_set (i := 3) sc_group.nd rfl (Or.inl rfl) (pe_fn C1 hr (pa_cons (pv 0) pa_nil)))
      (pss_cons (ps_if (pt_not (pt_val (pe_fn C2 (hr.mono (by decide)) (pa_cons (pv 1) (pa_cons (pv 2) (pa_cons (pv 3) pa_nil)))))) pss_never pss_nil)
      (pss_one (ps_ret (pe_fn C3 (hr.mono (by decide)) (pa_cons (pv 0) (pa_cons (pv 1) (pa_cons (pv 2) (pa_cons (pv 3) pa_nil)))))))), ?_⟩
    refine ⟨_, rfl, a, row, sz, rfl, ha, s1, s4, hrow, fun H1 e1 => ?_⟩
    refine ⟨_, rfl, _, rfl, _, rfl, x, y, _, rfl, _, rfl, ?_⟩
    rw [decide_eq_true (show (0 ≤ x ∧ x < 6 * (sz : Int) + 1) ∧ (0 ≤ y ∧ y < 6 * (sz : Int) + 1) ∧ x ≠ y from ⟨⟨x0, x1⟩, ⟨y0, y1⟩, hne⟩)]
    refine iteF ?_
    exact ⟨_, rfl, _, rfl, _, rfl, _, rfl, a, row, sz, x, y, _, rfl, e1 _ _ ha, s1, s4, hrow, rfl, x0, x1, y0, y1, hne, fun z p ms H2 tz rz hp e2 => q z p ms H2 tz rz hp (e1.trans e2)⟩
end
end Law
namespace Law
open PySem L2 SA
seal PE PA PT PW PS PSs PG PGs PI PC PIfs PSet OpR UnR CallR IxR SlR PO
section
variable {P : Program} {w : World} {K : PySem.W.Frag} {mg : Str → Option Value} {base : Heap}
theorem sc_third : FnScope ["row", "one", "other"] ["row", "one", "other"] (defScope s_third) := ⟨rfl, rfl, rfl, by decide +kernel, rfl, by decide +kernel, by decide +kernel⟩
theorem ok_third (D : Def K mg "third" s_third ["row", "one", "other"]) (hS : mg "sum" = none) (C1 : Cal P w K mg base 5 "group" ["row", "one", "other"] spGroup) : Cal P w K mg base 6 "third" ["row", "one", "other"] spThird := by
  refine D.ok sc_third (fun vs H Q E h => ?_) (fun f cdv A outer s H vs Q E hr h => ?_)
  · obtain ⟨a, row, sz, x, y, rfl, _⟩ := h
    rfl
  · obtain ⟨a, row, sz, x, y, rfl, ha, s1, s4, hrow, x0, x1, y0, y1, hne, q⟩ := h
    refine ⟨_, pss_one (ps_ret (pe_op op_sub (pe_op op_sub (pe_callB (call_sumT rfl) (by rfl) hS PyProof.Rows.boot_sum (pa_cons (pe_fn C1 hr (pa_cons (pv 0) (pa_cons (pv 1) (pa_cons (pv 2) pa_nil)))) pa_nil)) (pv 1)) (pv 2))), ?_⟩
    refine ⟨_, rfl, _, rfl, _, rfl, a, row, sz, x, y, rfl, ha, s1, s4, hrow, x0, x1, y0, y1, hne, fun z p ms H1 tz rz hp e1 => ?_⟩
    refine ⟨p, ms, rfl, SqT.of hp, _, rfl, _, _, rfl, rfl, _, rfl, _, _, rfl, rfl, ?_⟩
    have es : ms.sum = x + y + z := by
      obtain ⟨m0, m1, m2, rfl, _, _, hpm⟩ := rz.three
      rcases perm3 hpm with ⟨rfl, rfl, rfl⟩ | ⟨rfl, rfl, rfl⟩ | ⟨rfl, rfl, rfl⟩ | ⟨rfl, rfl, rfl⟩ | ⟨rfl, rfl, rfl⟩ | ⟨rfl, rfl, rfl⟩ <;> (simp only [List.sum_cons, List.sum_nil]; omega)
    have ee : ms.sum - x - y = z := by omega
    have := q z H1 tz e1
    rw [← ee] at this
    exact this
end
end Law
namespace Law
open PySem L2 SA
seal PE PA PT PW PS PSs PG PGs PI PC PIfs PSet OpR UnR CallR IxR SlR PO
section
variable {P : Program} {w : World} {K : PySem.W.Frag} {mg : Str → Option Value} {base : Heap}
theorem isG_eq {s : Nat} {row : List Int} (hr : RowOf s row) {x y z c : Int} {ms : List Int} (t : Tri s row x y c) (r : Rising x y c ms) : decide (ms = [x, y, z]) = isG s row x y z := by
  by_cases h : ms = [x, y, z]
  · rw [decide_eq_true h]
    subst h
    have hp := r.1
    have e : z = c := by
      have := (List.Perm.cons_inv (List.Perm.cons_inv hp))
      have := List.perm_singleton.mp this
      injection this
    subst e
    obtain ⟨_, hw⟩ := r
    simp only [List.pairwise_cons, List.mem_cons, List.not_mem_nil, or_false, forall_eq_or_imp, forall_eq] at hw
    have n1 := t.ne hr
    have n2 := t.rot.ne hr
    exact (isG_iff.mpr ⟨by omega, by omega, t⟩).symm
  · rw [decide_eq_false h]
    refine (isG_no fun ⟨h1, h2, t2⟩ => h ?_).symm
    have e : z = c := Tri.un hr t2 t
    subst e
    refine rising_un r ⟨List.Perm.refl _, ?_⟩
    simp only [List.pairwise_cons, List.mem_cons, List.not_mem_nil, or_false, forall_eq_or_imp, forall_eq]
    exact ⟨⟨by omega, by omega⟩, by omega, by simp⟩
theorem sc_isGroup : FnScope ["row", "some", "count", "one", "other"] ["row", "some"] (defScope s_is_group) := ⟨rfl, rfl, rfl, by decide +kernel, rfl, by decide +kernel, by decide +kernel⟩
theorem ok_isGroup (D : Def K mg "is_group" s_is_group ["row", "some"]) (C1 : Cal P w K mg base 4 "people" ["row"] spPeople) (C2 : Cal P w K mg base 2 "are_two_people" ["one", "other", "count"] spTwoP) (C3 : Cal P w K mg base 3 "group_of_two" ["row", "one", "other", "count"] spGot) :
    Cal P w K mg base 5 "is_group" ["row", "some"] spIsGroup := by
  refine D.ok sc_isGroup (fun vs H Q E h => ?_) (fun f cdv A outer s H vs Q E hr h => ?_)
  · obtain ⟨a, p, row, sz, x, y, z, rfl, _⟩ := h
    rfl
  · obtain ⟨a, p, row, sz, x, y, z, rfl, ha, hp, s1, s4, hrow, q⟩ := h
    refine ⟨_, pss_cons (ps_set (i := 2) sc_isGroup.nd rfl (Or.inl rfl) (pe_fn C1 hr (pa_cons (pv 0) pa_nil)))
      (pss_cons (ps_set (i := 3) sc_isGroup.nd rfl (Or.inl rfl) (pe_ix ix_tup (pv 1) pe_int (fun _ _ => rfl)))
      (pss_cons (ps_set (i := 4) sc_isGroup.nd rfl (Or.inl rfl) (pe_ix ix_tup (pv 1) pe_int (fun _ _ => rfl)))
      (pss_one (ps_ret (pe_and (pe_fn C2 (hr.mono (by decide)) (pa_cons (pv 3) (pa_cons (pv 4) (pa_cons (pv 2) pa_nil))))
        (pe_one (pe_cmpR (op_eqD hr.units) (pe_fn C3 (hr.mono (by decide)) (pa_cons (pv 0) (pa_cons (pv 3) (pa_cons (pv 4) (pa_cons (pv 2) pa_nil))))) (pv 1) (nomark _)))))))), ?_⟩
    refine ⟨_, rfl, a, row, sz, rfl, ha, s1, s4, hrow, fun H1 e1 => ?_⟩
    have hp1 := e1 _ _ hp
    refine ⟨_, rfl, p, _, _, _, rfl, rfl, SqT.of hp1, atI_nat (j := 0) rfl, ?_⟩
    refine ⟨_, rfl, p, _, _, _, rfl, rfl, SqT.of hp1, atI_nat (j := 1) rfl, ?_⟩
    refine ⟨_, rfl, _, rfl, _, rfl, x, y, _, rfl, _, rfl, ?_⟩
    refine ite2 (fun hc => ?_) (fun hc => ?_)
    · obtain ⟨⟨x0, x1⟩, ⟨y0, y1⟩, hne⟩ := of_decide_eq_true hc
      refine ⟨_, rfl, _, rfl, _, rfl, _, rfl, a, row, sz, x, y, _, rfl, e1 _ _ ha, s1, s4, hrow, rfl, x0, x1, y0, y1, hne, fun c g ms H2 tc rc hg e2 => ?_⟩
      refine ⟨_, rfl, tupI ms, tupI [x, y, z], dh_tupI hg, dh_tupI (e2 _ _ hp1), shaped_tupI _, shaped_tupI _, ?_⟩
      rw [eqv_tupI, isG_eq hrow tc rc]
      exact q H2 (e1.trans e2)
    · have : isG sz row x y z = false := isG_no fun ⟨_, _, t⟩ => hc (decide_eq_true ⟨t.person, t.swap.person, t.ne hrow⟩)
      have q1 := q H1 e1
      rw [this] at q1
      exact q1
end
end Law
namespace Law
open PySem L2 SA
seal PE PA PT PW PS PSs PG PGs PI PC PIfs PSet OpR UnR CallR IxR SlR PO
section
variable {P : Program} {w : World} {K : PySem.W.Frag} {mg : Str → Option Value} {base : Heap}
theorem sc_day : FnScope ["row", "person", "count", "found", "number"] ["row", "person"] (defScope s_day) := ⟨rfl, rfl, rfl, by decide +kernel, rfl, by decide +kernel, by decide +kernel⟩
theorem ok_day (D : Def K mg "day" s_day ["row", "person"]) (B : Bn mg) (hS : mg "sorted" = none) (C1 : Cal P w K mg base 4 "people" ["row"] spPeople) (C2 : Cal P w K mg base 1 "is_person" ["person", "count"] spIsPerson) (C3 : Cal P w K mg base 1 "base_group" ["row", "number"] spBase) (C4 : Cal P w K mg base 2 "turned_to" ["three", "person", "count"] spTurnedTo) :
    Cal P w K mg base 5 "day" ["row", "person"] spDay := by
  refine D.ok sc_day (fun vs H Q E h => ?_) (fun f cdv A outer s H vs Q E hr h => ?_)
  · obtain ⟨a, row, sz, x, rfl, _⟩ := h
    rfl
  · obtain ⟨a, row, sz, x, rfl, ha, s1, s4, hrow, x0, x1, q⟩ := h
    have hl := hrow.1
    have hr1 := hr.mono (show 1 ≤ 4 by decide)
    have hr2 := hr.mono (show 2 ≤ 4 by decide)
    refine ⟨_, pss_cons (ps_set (i := 2) sc_day.nd rfl (Or.inl rfl) (pe_fn C1 hr (pa_cons (pv 0) pa_nil)))
      (pss_cons (ps_if (pt_not (pt_val (pe_fn C2 hr1 (pa_cons (pv 1) (pa_cons (pv 2) pa_nil))))) pss_never pss_nil)
      (pss_cons (ps_set (i := 3) sc_day.nd rfl (Or.inl rfl) (pe_lst pa_nil))
      (pss_cons (ps_for PassesOwn.never rfl (pi_range2 rfl B.range (pa_cons pe_int (pa_cons (pe_op op_add (pe_op op_fdiv (pe_callB call_len_seq (by rfl) B.len PySem.boot_len (pa_cons (pv 0) pa_nil)) pe_int) pe_int) pa_nil))) (pg_name (i := 4) sc_day.nd rfl (Or.inl rfl))
        (pss_one (ps_expr (pe_bm PySem.F.plainAttrs_list PySem.F.slot_list_extend PySem.F.type_list_extend mt_extend (pv 3) (pa_cons (pe_fn C4 hr2 (pa_cons (pe_fn C3 hr1 (pa_cons (pv 0) (pa_cons (pv 4) pa_nil))) (pa_cons (pv 1) (pa_cons (pv 2) pa_nil)))) pa_nil)))))
      (pss_one (ps_ret (pe_callB call_sortT (by rfl) hS PyProof.Rows.boot_sorted (pa_cons (pv 3) pa_nil))))))), ?_⟩
    refine ⟨_, rfl, a, row, sz, rfl, ha, s1, s4, hrow, fun H1 e1 => ?_⟩
    have ha1 := e1 _ _ ha
    have hv : (0 : Int) < 6 * sz + 1 := by omega
    refine ⟨_, rfl, _, rfl, x, _, rfl, _, rfl, ?_⟩
    rw [decide_eq_true (show 0 ≤ x ∧ x < 6 * (sz : Int) + 1 from ⟨x0, x1⟩)]
    refine iteF ⟨by show 0 ≤ sizeLine; exact Nat.zero_le _, fun lf hlf => ?_⟩
    have en : (((row.map V.int).length : Nat) : Int) / 2 + 1 = (sz : Int) + 1 := by rw [List.length_map]; omega
    have e2 : Same H1 (upd H1 lf (.lst [])) := same_upd (Same.refl _) hlf
    refine ⟨_, rfl, a, _, rfl, .inl (SqL.of (e2 _ _ ha1)), _, _, rfl, rfl, ⟨by decide, by decide⟩, _, _, rfl, rfl, 1, (sz : Int) + 1, congrArg (fun x => [V.int 1, V.int x]) en, ⟨by omega, by omega, by omega, by omega⟩, ?_⟩
    have en2 : ((sz : Int) + 1 - 1).toNat = sz := by omega
    rw [en2]
    refine for_range (lo := 1) (n := sz) (fun i σ H2 => ∃ (v4 : Option V) (xs : List V), σ = [some (.ref a), some (.int x), some (.int (6 * sz + 1)), some (.ref lf), v4] ∧ Same H1 H2 ∧ H2 lf = some (.lst xs) ∧ TL H2 xs (dayTo sz row x i)) ⟨none, [], rfl, e2, upd_same, .nil⟩ ?_ ?_
    · rintro i σ H2 hi ⟨v4, xs, rfl, e3, hlf2, tl⟩
      obtain ⟨e, b⟩ := Bs.of hrow (n := 1 + (i : Int)) (by omega) (by omega)
      have ee := Bs.is b
      refine ⟨_, rfl, .inl ⟨rfl, _, SqL.of hlf2⟩, _, rfl, _, rfl, a, row, sz, _, e, rfl, e3 _ _ ha1, s4, hrow, b, fun p hp => ?_⟩
      have e4 : Same H2 (upd H2 p (.tup [.int 0, .int (1 + (i : Int)), .int e])) := same_upd (Same.refl _) hp
      refine ⟨_, rfl, _, rfl, p, 0, _, e, x, _, rfl, upd_same, hv, fun l ys m0 m1 m2 H3 hl0 hl1 tl2 r0 r1 r2 e5 => ?_⟩
      have e45 := e4.trans e5
      have q0 := rise_is r0
      have q1 := rise_is r1
      have q2 := rise_is r2
      have hlen := tl.len
      rw [dayTo_len] at hlen
      have hlen2 := tl2.len
      refine ⟨lf, l, xs, ys, rfl, rfl, e45 _ _ hlf2, hl1, Nat.le_of_lt (smallM (by rw [hlen, hlen2]; show 3 * i + 3 ≤ _; omega)), ?_⟩
      refine ⟨_, xs ++ ys, rfl, fun b' o hb => ?_, upd_same, ?_⟩
      · rw [upd_ne (ne_of_none hb hlf)]; exact e45 _ _ (e3 _ _ hb)
      · rw [dayTo_succ]
        have ed : dayOf sz row x i = [m0, m1, m2] := by
          rw [q0, q1, q2, ee]; rfl
        rw [ed]
        have both : TL H3 (xs ++ ys) (dayTo sz row x i ++ [m0, m1, m2]) := Law.TL.app (tl.same e45) tl2
        exact both.upd fun ys' z => by rw [e45 _ _ hlf2] at z; cases z
    · rintro σ H2 ⟨v4, xs, rfl, e3, hlf2, tl⟩
      have g3 := dayTo_grp hrow x0 x1
      refine ⟨_, rfl, lf, xs, _, 6 * sz + 1, rfl, SqL.of hlf2, tl, fun t ht => grp_three (g3 t ht), by rw [dayTo_len]; omega, fun l rs' ts' hl0 tl' hp hu => ?_⟩
      have e4 : Same H2 (upd H2 l (.lst rs')) := same_upd (Same.refl _) hl0
      have e13 := e1.trans e3
      exact q l rs' ts' _ (e13.free hl0) upd_same (tl'.same e4) hp hu (e13.trans e4)
end
end Law
namespace Law
open PySem L2 SA
seal PE PA PT PW PS PSs PG PGs PI PC PIfs PSet OpR UnR CallR IxR SlR PO
section
variable {P : Program} {w : World} {K : PySem.W.Frag} {mg : Str → Option Value} {base : Heap}
theorem sc_groups : FnScope ["row", "count", "size", "found", "number", "three"] ["row"] (defScope s_groups) := ⟨rfl, rfl, rfl, by decide +kernel, rfl, by decide +kernel, by decide +kernel⟩
theorem ok_groups {tk9 : Tok} (D : Def K mg "groups" s_groups ["row"]) (B : Bn mg) (hS : mg "sorted" = none) (h9 : mg "GREATEST_GROUPED" = some (.int 9 tk9)) (C1 : Cal P w K mg base 4 "people" ["row"] spPeople) (C2 : Cal P w K mg base 1 "check_size" ["size", "greatest"] spCheck)
    (C3 : Cal P w K mg base 1 "base_group" ["row", "number"] spBase) (C4 : Cal P w K mg base 1 "turned" ["three", "step", "count"] spTurned) : Cal P w K mg base 5 "groups" ["row"] spGroups := by
  refine D.ok sc_groups (fun vs H Q E h => ?_) (fun f cdv A outer s H vs Q E hr h => ?_)
  · obtain ⟨a, row, sz, rfl, _⟩ := h
    rfl
  · obtain ⟨a, row, sz, rfl, ha, s1, s4, hrow, q⟩ := h
    have hl := hrow.1
    have hr1 := hr.mono (show 1 ≤ 4 by decide)
    have nd1 : List.Nodup [("step" : Str), "three", "count"] := by decide +kernel
    refine ⟨_, pss_cons (ps_set (i := 1) sc_groups.nd rfl (Or.inr rfl) (pe_fn C1 hr (pa_cons (pv 0) pa_nil)))
      (pss_cons (ps_set (i := 2) sc_groups.nd rfl (Or.inl rfl) (pe_op op_fdiv (pe_callB call_len_seq (by rfl) B.len PySem.boot_len (pa_cons (pv 0) pa_nil)) pe_int))
      (pss_cons (ps_expr (pe_fn C2 hr1 (pa_cons (pv 2) (pa_cons (pe_glob (v := .int 9) (by rfl) h9 ⟨_, rfl⟩) pa_nil))))
      (pss_cons (ps_set (i := 3) sc_groups.nd rfl (Or.inl rfl) (pe_lst pa_nil))
      (pss_cons (ps_for PassesOwn.never rfl (pi_range2 rfl B.range (pa_cons pe_int (pa_cons (pe_op op_add (pv 2) pe_int) pa_nil))) (pg_name (i := 4) sc_groups.nd rfl (Or.inl rfl))
        (pss_cons (ps_set (i := 5) sc_groups.nd rfl (Or.inr rfl) (pe_fn C3 hr1 (pa_cons (pv 0) (pa_cons (pv 4) pa_nil))))
        (pss_one (ps_expr (pe_bm PySem.F.plainAttrs_list PySem.F.slot_list_extend PySem.F.type_list_extend mt_extend (pv 3) (pa_cons
          (pe_comp (T := ["step"]) (F := [("three", 5), ("count", 1)]) rfl ⟨rfl, by decide +kernel, by decide +kernel, rfl, ⟨⟨rfl, rfl, by decide +kernel, rfl⟩, ⟨rfl, rfl, by decide +kernel, rfl⟩, trivial⟩⟩ (pi_range1 rfl B.range (pa_cons (pv 1) pa_nil))
            (fun C s' H' fp => ⟨pg_name (i := 0) nd1 rfl (Or.inl rfl), pifs_nil, pe_fn C4 hr1 (pa_cons (pv 1) (pa_cons (pv 0) (pa_cons (pv 2) pa_nil)))⟩)) pa_nil))))))
      (pss_one (ps_ret (pe_callB call_sortT (by rfl) hS PyProof.Rows.boot_sorted (pa_cons (pv 3) pa_nil)))))))), ?_⟩
    refine ⟨_, rfl, a, row, sz, rfl, ha, s1, by omega, hrow, fun H1 e1 => ?_⟩
    have ha1 := e1 _ _ ha
    have hv : (0 : Int) < 6 * sz + 1 := by omega
    have en : (((row.map V.int).length : Nat) : Int) / 2 = (sz : Int) := by rw [List.length_map]; omega
    refine ⟨_, rfl, a, _, rfl, .inl (SqL.of ha1), _, _, rfl, rfl, ⟨by decide, by decide⟩, ?_⟩
    rw [show (fun (i j : Int) => V.int (i / j)) (((row.map V.int).length : Nat) : Int) 2 = V.int (sz : Int) from congrArg V.int en]
    refine ⟨_, rfl, _, 9, rfl, by omega, by omega, by show 0 ≤ sizeLine; exact Nat.zero_le _, fun lf hlf => ?_⟩
    have e2 : Same H1 (upd H1 lf (.lst [])) := same_upd (Same.refl _) hlf
    refine ⟨_, rfl, _, _, rfl, rfl, 1, (sz : Int) + 1, rfl, ⟨by omega, by omega, by omega, by omega⟩, ?_⟩
    have en2 : ((sz : Int) + 1 - 1).toNat = sz := by omega
    rw [en2]
    refine for_range (lo := 1) (n := sz) (fun i σ H2 => ∃ (v4 v5 : Option V) (xs : List V), σ = [some (.ref a), some (.int (6 * sz + 1)), some (.int sz), some (.ref lf), v4, v5] ∧ Same H1 H2 ∧ H2 lf = some (.lst xs) ∧ TL H2 xs (grpsTo sz row i)) ⟨none, none, [], rfl, e2, upd_same, .nil⟩ ?_ ?_
    · rintro i σ H2 hi ⟨v4, v5, xs, rfl, e3, hlf2, tl⟩
      obtain ⟨e, b⟩ := Bs.of hrow (n := 1 + (i : Int)) (by omega) (by omega)
      have ee := Bs.is b
      refine ⟨_, rfl, _, rfl, a, row, sz, _, e, rfl, e3 _ _ ha1, by omega, hrow, b, fun p hp => ?_⟩
      have e4 : Same H2 (upd H2 p (.tup [.int 0, .int (1 + (i : Int)), .int e])) := same_upd (Same.refl _) hp
      have hp4 := upd_same (H := H2) (a := p) (o := .tup [.int 0, .int (1 + (i : Int)), .int e])
      have hlf4 := e4 _ _ hlf2
      have tl4 := tl.same e4
      have e34 := e3.trans e4
      generalize upd H2 p (.tup [.int 0, .int (1 + (i : Int)), .int e]) = H4 at *
      refine ⟨_, rfl, .inl ⟨rfl, _, SqL.of hlf4⟩, _, rfl, _, rfl, by omega, by omega, fun lc hlc => ?_⟩
      have ec : ((6 : Int) * sz + 1).toNat = 6 * sz + 1 := by omega
      rw [ec]
      refine comp_range (lo := 0) (n := 6 * sz + 1) (fun k σ ys H5 => ∃ v, σ = [v, some (.ref p), some (.int (6 * sz + 1))] ∧ Same H4 H5 ∧ H5 lc = some (.lst ys) ∧ TL H5 ys (grpsOf sz row i k)) ⟨none, rfl, same_upd (Same.refl _) hlc, upd_same, .nil⟩ ?_ ?_
      · rintro k σ ys H5 hk ⟨v, rfl, e5, hl5, tl5⟩
        refine comp_yes ?_
        refine ⟨_, rfl, _, rfl, _, rfl, p, 0, _, e, _, _, rfl, e5 _ _ hp4, hv, fun g ms H6 hg0 hg hri e6 => ?_⟩
        have hl6 := e6 _ _ hl5
        have hlen := tl5.len
        unfold grpsOf at hlen
        rw [List.length_map, List.length_range] at hlen
        refine ⟨hl6, small1000 (by omega), _, rfl, same_upd (e5.trans e6) hlc, upd_same, ?_⟩
        have eg : grpsOf sz row i (k + 1) = grpsOf sz row i k ++ [ms] := by
          unfold grpsOf
          rw [List.range_succ, List.map_append, ← ee, rise_is hri]; rfl
        rw [eg]
        exact ((tl5.same e6).snoc hg).upd fun ys' z => by rw [hl6] at z; cases z
      · rintro σ ys H5 ⟨v, rfl, e5, hl5, tl5⟩
        have hlen := tl.len
        rw [grpsTo_len] at hlen
        have hlen2 := tl5.len
        unfold grpsOf at hlen2
        rw [List.length_map, List.length_range] at hlen2
        have hsz : i * (6 * sz + 1) ≤ 9 * 55 := Nat.mul_le_mul (by omega) (by omega)
        refine ⟨lf, lc, xs, ys, rfl, rfl, e5 _ _ hlf4, hl5, Nat.le_of_lt (smallM (by rw [hlen, hlen2]; omega)), ?_⟩
        refine ⟨_, _, xs ++ ys, rfl, fun b' o hb => ?_, upd_same, ?_⟩
        · rw [upd_ne (ne_of_none hb hlf)]; exact e5 _ _ (e34 _ _ hb)
        · rw [grpsTo_succ]
          have both : TL H5 (xs ++ ys) (grpsTo sz row i ++ grpsOf sz row i (6 * sz + 1)) := Law.TL.app (tl4.same e5) tl5
          exact both.upd fun ys' z => by rw [e5 _ _ hlf4] at z; cases z
    · rintro σ H2 ⟨v4, v5, xs, rfl, e3, hlf2, tl⟩
      have hsz : sz * (6 * sz + 1) ≤ 9 * 55 := Nat.mul_le_mul (by omega) (by omega)
      refine ⟨_, rfl, lf, xs, _, 6 * sz + 1, rfl, SqL.of hlf2, tl, fun t ht => ?_, by rw [grpsTo_len]; omega, fun l rs' ts' hl0 tl' hp hu => ?_⟩
      · obtain ⟨i, hi, ht⟩ := List.mem_flatMap.mp ht
        obtain ⟨x, hx⟩ := grps_grp hrow (List.mem_range.mp hi) t ht
        exact grp_three hx
      · have e4 : Same H2 (upd H2 l (.lst rs')) := same_upd (Same.refl _) hl0
        have e13 := e1.trans e3
        exact q l rs' ts' _ (e13.free hl0) upd_same (tl'.same e4) hp hu (e13.trans e4)
end
end Law
namespace Law
open PySem L2 SA TX
seal PE PA PT PW PS PSs PG PGs PI PC PIfs PSet OpR UnR CallR IxR SlR PO
section
variable {P : Program} {w : World} {K : PySem.W.Frag} {mg : Str → Option Value} {base : Heap}
theorem sc_shown : FnScope ["row"] ["row"] (defScope s_shown) := ⟨rfl, rfl, rfl, by decide +kernel, rfl, by decide +kernel, by decide +kernel⟩
theorem ok_shown (D : Def K mg "shown" s_shown ["row"]) (hStr : mg "str" = none) (C1 : Cal P w K mg base 3 "check_row" ["row"] spCrow) : Cal P w K mg base 4 "shown" ["row"] spShown := by
  refine D.ok sc_shown (fun vs H Q E h => ?_) (fun f cdv A outer s H vs Q E hr h => ?_)
  · obtain ⟨a, row, sz, rfl, _⟩ := h
    rfl
  · obtain ⟨a, row, sz, rfl, ha, s1, s4, hrow, q⟩ := h
    have hl := hrow.1
    have hmem : ∀ m ∈ row, 1 ≤ m ∧ m ≤ 400 := fun m hm => by have := hrow.mem m hm; omega
    have nd1 : List.Nodup [("number" : Str)] := by decide +kernel
    refine ⟨_, pss_cons (ps_expr (pe_fn C1 hr (pa_cons (pv 0) pa_nil))) (pss_one (ps_ret (pe_bm PySem.F.plainAttrs_str PySem.F.slot_str_join PySem.F.type_str_join mt_join pe_str (pa_cons
      (pe_comp (T := ["number"]) (F := []) rfl ⟨rfl, by decide +kernel, by decide +kernel, rfl, trivial⟩ (pi_list (pv 0)) (fun C s' H' fp => ⟨pg_name (i := 0) nd1 rfl (Or.inl rfl), pifs_nil, pe_callTy call_str_int (by rfl) hStr PyProof.Rows.boot_str (pa_cons (pv 0) pa_nil)⟩)) pa_nil)))), ?_⟩
    refine ⟨_, rfl, a, row, rfl, ha, by omega, ⟨sz, s1, s4, hrow⟩, fun H1 e1 => ?_⟩
    have ha1 := e1 _ _ ha
    refine ⟨rfl, _, rfl, a, rfl, ⟨_, SqL.of ha1⟩, fun lc hlc => ?_⟩
    refine comp_list (K := K) (a := a) (xs := row.map V.int) (fun k σ ys H9 => ∃ v, σ = [v] ∧ Same H1 H9 ∧ H9 lc = some (.lst ys) ∧ ys = ((row.take k).map fig).map V.str) ⟨none, rfl, same_upd (Same.refl _) hlc, upd_same, rfl⟩ (fun k σ ys H9 _ ⟨_, _, s9, _⟩ => SqL.of (s9 _ _ ha1)) ?_ ?_
    · rintro k x σ ys H9 hk ⟨v, rfl, s9, hl9, eys⟩
      obtain ⟨n, hn, rfl⟩ := map_get hk
      have hm := hmem n (List.mem_of_getElem? hn)
      refine comp_yes ?_
      refine ⟨_, rfl, n, rfl, fig_small hm.1 hm.2, hl9, ?_, _, rfl, same_upd s9 hlc, upd_same, ?_⟩
      · rw [eys, List.length_map, List.length_map, List.length_take]; exact small1000 (by omega)
      · rw [List.take_add_one, hn, List.map_append, List.map_append, eys]; rfl
    · rintro σ ys H9 ⟨v, rfl, s9, hl9, eys⟩
      rw [List.length_map, List.take_length] at eys
      refine ⟨_, lc, row.map fig, rfl, rfl, SqL.of (by rw [hl9, eys]), ?_, ?_⟩
      · unfold JoinOk
        rw [Bool.not_eq_true']
        refine PySem.StrLaws.joinFits (B := 4) (fun y hy => ?_) ?_
        · obtain ⟨n, hn, rfl⟩ := List.mem_map.mp hy
          exact fig_len (hmem n hn).1 (hmem n hn).2
        · rw [List.length_map]
          show row.length * 4 + row.length * 1 ≤ 16777216
          omega
      · have hne : row ≠ [] := fun z => by rw [z] at hl; simp at hl; omega
        have := q H9 (e1.trans s9)
        rw [← join_txt row hne] at this
        exact this
end
end Law
namespace Law
open PySem L2 SA
theorem small18 {n : Nat} (h : n ≤ 1000000) : n < 2 ^ 1800 := Nat.lt_of_le_of_lt h (Nat.lt_of_lt_of_le (by decide : 1000000 < 2 ^ 20) (Nat.pow_le_pow_right (by decide) (by decide)))
theorem log18 {i : Int} (h : i.natAbs < 2 ^ 1800) : i.natAbs.log2 < 1900 := log2_small (Nat.lt_of_lt_of_le h (Nat.pow_le_pow_right (by decide) (by decide)))
def spCheckE (C : Addr) : Sp := fun vs H _ E => ∃ (n g : Int), vs = [.int n, .int g] ∧ n.natAbs < 2 ^ 1800 ∧ g.natAbs < 2 ^ 1800 ∧ ¬ (1 ≤ n ∧ n ≤ g) ∧ E (.ref C) none H
def spSE (C : Addr) (lim : Int) : Sp := fun vs H _ E => ∃ (n : Int), vs = [.int n] ∧ n.natAbs < 2 ^ 1800 ∧ ¬ (1 ≤ n ∧ n ≤ lim) ∧ E (.ref C) none H
def spRE (C : Addr) : Sp := fun vs H _ E => ∃ (a : Addr) (row : List Int), vs = [.ref a] ∧ H a = some (.lst (row.map V.int)) ∧ row.length ≤ 900 ∧ isRowC row = false ∧ ∀ H', Same H H' → E (.ref C) none H'
def spGsE (c0 c2 : Addr) : Sp := fun vs H _ E => ∃ (a : Addr) (row : List Int), vs = [.ref a] ∧ H a = some (.lst (row.map V.int)) ∧ row.length ≤ 900 ∧ ((isRowC row = false ∧ ∀ H', Same H H' → E (.ref c2) none H') ∨ (∃ s : Nat, 10 ≤ s ∧ s ≤ 400 ∧ RowOf s row ∧ ∀ H', Same H H' → E (.ref c0) none H'))
def spIGE (c2 : Addr) : Sp := fun vs H _ E => ∃ (a p : Addr) (row : List Int), vs = [.ref a, .ref p] ∧ H a = some (.lst (row.map V.int)) ∧ row.length ≤ 900 ∧ isRowC row = false ∧ ∀ H', Same H H' → E (.ref c2) none H'
def spTE (c2 c3 : Addr) : Sp := fun vs H _ E => ∃ (a : Addr) (row : List Int) (x y : Int), vs = [.ref a, .int x, .int y] ∧ H a = some (.lst (row.map V.int)) ∧ row.length ≤ 900 ∧ x.natAbs < 2 ^ 1800 ∧ y.natAbs < 2 ^ 1800 ∧
  ((isRowC row = false ∧ ∀ H', Same H H' → E (.ref c2) none H') ∨ (∃ s : Nat, 1 ≤ s ∧ s ≤ 400 ∧ RowOf s row ∧ ¬ ((0 ≤ x ∧ x < 6 * s + 1) ∧ (0 ≤ y ∧ y < 6 * s + 1) ∧ x ≠ y) ∧ ∀ H', Same H H' → E (.ref c3) none H'))
def spDE (c2 c3 : Addr) : Sp := fun vs H _ E => ∃ (a : Addr) (row : List Int) (x : Int), vs = [.ref a, .int x] ∧ H a = some (.lst (row.map V.int)) ∧ row.length ≤ 900 ∧ x.natAbs < 2 ^ 1800 ∧
  ((isRowC row = false ∧ ∀ H', Same H H' → E (.ref c2) none H') ∨ (∃ s : Nat, 1 ≤ s ∧ s ≤ 400 ∧ RowOf s row ∧ ¬ (0 ≤ x ∧ x < 6 * s + 1) ∧ ∀ H', Same H H' → E (.ref c3) none H'))
seal PE PA PT PW PS PSs PG PGs PI PC PIfs PSet OpR UnR CallR IxR SlR PO PJ
section
variable {P : Program} {w : World} {K : PySem.W.Frag} {mg : Str → Option Value} {base : Heap} {c0 c1 c2 c3 c4 : Addr} {tk : Tok}
theorem ok_checkE (D : Def K mg "check_size" s_check_size ["size", "greatest"]) (X0 : Err K mg "NoSize" c0) : CalE P w K mg base 1 "check_size" ["size", "greatest"] (spCheckE c0) := by
  refine D.okE sc_check (fun vs H Q E h => ?_) (fun f cdv A outer s H vs Q E hr h => ?_)
  · obtain ⟨n, g, rfl, _⟩ := h
    rfl
  · obtain ⟨n, g, rfl, hn, hg, hne, q⟩ := h
    refine ⟨_, pss_one (ps_if (PW.pt (pw_or (pt_cmpR op_lt (pv 0) pe_int (nomark _)) (pw_or1 (pt_cmpR op_gt (pv 0) (pv 1) (nomark _))))) (pss_one (ps_raise throws_def X0.ex X0.nm (by rfl) rfl (pe_join (pj_cons pe_str (pj_cons (pe_fmtI (pv 0)) (pj_cons pe_str (pj_cons (pe_fmtI (pv 1)) pj_nil)))) (by decide)))) pss_nil), ?_⟩
    refine ⟨_, rfl, _, _, rfl, rfl, _, rfl, ?_⟩
    refine ite2 (fun _ => ?_) (fun hc => ?_)
    · exact iteT ⟨_, rfl, by decide, _, rfl, _, rfl, log18 hn, fun y hy => ⟨y, rfl, hy, _, rfl, by decide, _, rfl, _, rfl, log18 hg, fun y2 hy2 => ⟨y2, rfl, hy2, fun z => q⟩⟩⟩
    · have h1 : ¬ n < 1 := fun z => hc (decide_eq_true z)
      refine ⟨_, rfl, _, rfl, _, _, rfl, rfl, _, rfl, ?_⟩
      rw [decide_eq_true (by omega)]
      exact iteT ⟨_, rfl, by decide, _, rfl, _, rfl, log18 hn, fun y hy => ⟨y, rfl, hy, _, rfl, by decide, _, rfl, _, rfl, log18 hg, fun y2 hy2 => ⟨y2, rfl, hy2, fun z => q⟩⟩⟩
theorem ok_canE (D : Def K mg "can_be" s_can_be ["size"]) (hG : mg "GREATEST" = some (.int 400 tk)) (C1 : CalE P w K mg base 1 "check_size" ["size", "greatest"] (spCheckE c0)) : CalE P w K mg base 2 "can_be" ["size"] (spSE c0 400) := by
  refine D.okE sc_can (fun vs H Q E h => ?_) (fun f cdv A outer s H vs Q E hr h => ?_)
  · obtain ⟨n, rfl, _⟩ := h
    rfl
  · obtain ⟨n, rfl, hn, hne, q⟩ := h
    exact ⟨_, pss_cons (ps_expr (pe_fnE C1 passes_def hr (pa_cons (pv 0) (pa_cons (pe_glob (v := .int 400) (by rfl) hG ⟨_, rfl⟩) pa_nil)))) pss_never, _, rfl, n, 400, rfl, hn, small18 (by decide), hne, q⟩
theorem ok_reckE (D : Def K mg "reckoned" s_reckoned ["size"]) (hG : mg "GREATEST" = some (.int 400 tk)) (C1 : CalE P w K mg base 1 "check_size" ["size", "greatest"] (spCheckE c0)) : CalE P w K mg base 2 "reckoned" ["size"] (spSE c0 400) := by
  refine D.okE sc_reck (fun vs H Q E h => ?_) (fun f cdv A outer s H vs Q E hr h => ?_)
  · obtain ⟨n, rfl, _⟩ := h
    rfl
  · obtain ⟨n, rfl, hn, hne, q⟩ := h
    exact ⟨_, pss_cons (ps_expr (pe_fnE C1 passes_def hr (pa_cons (pv 0) (pa_cons (pe_glob (v := .int 400) (by rfl) hG ⟨_, rfl⟩) pa_nil)))) pss_never, _, rfl, n, 400, rfl, hn, small18 (by decide), hne, q⟩
theorem ok_manyE (D : Def K mg "many" s_many ["size"]) (hG : mg "GREATEST_COUNTED" = some (.int 8 tk)) (C1 : CalE P w K mg base 1 "check_size" ["size", "greatest"] (spCheckE c0)) : CalE P w K mg base 2 "many" ["size"] (spSE c0 8) := by
  refine D.okE sc_many (fun vs H Q E h => ?_) (fun f cdv A outer s H vs Q E hr h => ?_)
  · obtain ⟨n, rfl, _⟩ := h
    rfl
  · obtain ⟨n, rfl, hn, hne, q⟩ := h
    exact ⟨_, pss_cons (ps_expr (pe_fnE C1 passes_def hr (pa_cons (pv 0) (pa_cons (pe_glob (v := .int 8) (by rfl) hG ⟨_, rfl⟩) pa_nil)))) pss_never, _, rfl, n, 8, rfl, hn, small18 (by decide), hne, q⟩
theorem ok_rowsE (D : Def K mg "rows" s_rows ["size"]) (hG : mg "GREATEST_TOLD" = some (.int 5 tk)) (C1 : CalE P w K mg base 1 "check_size" ["size", "greatest"] (spCheckE c0)) : CalE P w K mg base 2 "rows" ["size"] (spSE c0 5) := by
  refine D.okE sc_rows (fun vs H Q E h => ?_) (fun f cdv A outer s H vs Q E hr h => ?_)
  · obtain ⟨n, rfl, _⟩ := h
    rfl
  · obtain ⟨n, rfl, hn, hne, q⟩ := h
    exact ⟨_, pss_cons (ps_expr (pe_fnE C1 passes_def hr (pa_cons (pv 0) (pa_cons (pe_glob (v := .int 5) (by rfl) hG ⟨_, rfl⟩) pa_nil)))) pss_never, _, rfl, n, 5, rfl, hn, small18 (by decide), hne, q⟩
theorem ok_rowOfN (D : Def K mg "row_of" s_row_of ["size"]) (C1 : CalE P w K mg base 2 "can_be" ["size"] (spSE c0 400)) : CalE P w K mg base 3 "row_of" ["size"] (spSE c0 400) := by
  refine D.okE sc_rowOf (fun vs H Q E h => ?_) (fun f cdv A outer s H vs Q E hr h => ?_)
  · obtain ⟨n, rfl, _⟩ := h
    rfl
  · obtain ⟨n, rfl, hn, hne, q⟩ := h
    exact ⟨_, pss_cons (ps_if (pt_not (pt_val (pe_fnE C1 passes_def hr (pa_cons (pv 0) pa_nil)))) pss_never pss_nil) pss_never, _, rfl, n, rfl, hn, hne, q⟩
theorem ok_rowOfS (D : Def K mg "row_of" s_row_of ["size"]) (X1 : Err K mg "NoSuch" c1) (C1 : Cal P w K mg base 2 "can_be" ["size"] spCan) : CalE P w K mg base 3 "row_of" ["size"] (spRowOfE c1) := by
  refine D.okE sc_rowOf (fun vs H Q E h => ?_) (fun f cdv A outer s H vs Q E hr h => ?_)
  · obtain ⟨n, rfl, _⟩ := h
    rfl
  · obtain ⟨n, rfl, h1, h2, h4, q⟩ := h
    refine ⟨_, pss_cons (ps_if (pt_not (pt_val (pe_fn C1 hr (pa_cons (pv 0) pa_nil)))) (pss_one (ps_raise throws_def X1.ex X1.nm (by rfl) rfl (pe_join (pj_cons pe_str (pj_cons (pe_fmtI (pv 0)) pj_nil)) (by decide)))) pss_nil) pss_never, ?_⟩
    refine ⟨_, rfl, n, rfl, by omega, by omega, _, rfl, ?_⟩
    rw [decide_eq_false (by omega)]
    exact iteT ⟨_, rfl, by decide, _, rfl, _, rfl, log18 (small18 (by omega)), fun y hy => ⟨y, rfl, hy, fun z => q⟩⟩
theorem ok_crowE (D : Def K mg "check_row" s_check_row ["row"]) (X2 : Err K mg "NoRow" c2) (C1 : Cal P w K mg base 2 "is_row" ["row"] spIsRow) : CalE P w K mg base 3 "check_row" ["row"] (spRE c2) := by
  refine D.okE sc_crow (fun vs H Q E h => ?_) (fun f cdv A outer s H vs Q E hr h => ?_)
  · obtain ⟨a, row, rfl, _⟩ := h
    rfl
  · obtain ⟨a, row, rfl, ha, hl, hno, q⟩ := h
    refine ⟨_, pss_one (ps_if (pt_not (pt_val (pe_fn C1 hr (pa_cons (pv 0) pa_nil)))) (pss_one (ps_raise throws_def X2.ex X2.nm (by rfl) rfl pe_str)) pss_nil), ?_⟩
    refine ⟨_, rfl, a, row, rfl, ha, by omega, fun H1 s1 => ⟨_, rfl, ?_⟩⟩
    rw [hno]
    exact iteT (q H1 s1)
theorem ok_contraryE (D : Def K mg "contrary" s_contrary ["row"]) (C1 : CalE P w K mg base 3 "check_row" ["row"] (spRE c2)) : CalE P w K mg base 4 "contrary" ["row"] (spRE c2) := by
  refine D.okE sc_contrary (fun vs H Q E h => ?_) (fun f cdv A outer s H vs Q E hr h => ?_)
  · obtain ⟨a, row, rfl, _⟩ := h
    rfl
  · obtain ⟨a, row, rfl, h⟩ := h
    exact ⟨_, pss_cons (ps_expr (pe_fnE C1 passes_def hr (pa_cons (pv 0) pa_nil))) pss_never, _, rfl, a, row, rfl, h⟩
theorem ok_placesE (D : Def K mg "places" s_places ["row"]) (C1 : CalE P w K mg base 3 "check_row" ["row"] (spRE c2)) : CalE P w K mg base 4 "places" ["row"] (spRE c2) := by
  refine D.okE sc_places (fun vs H Q E h => ?_) (fun f cdv A outer s H vs Q E hr h => ?_)
  · obtain ⟨a, row, rfl, _⟩ := h
    rfl
  · obtain ⟨a, row, rfl, h⟩ := h
    exact ⟨_, pss_cons (ps_expr (pe_fnE C1 passes_def hr (pa_cons (pv 0) pa_nil))) pss_never, _, rfl, a, row, rfl, h⟩
theorem ok_shownE (D : Def K mg "shown" s_shown ["row"]) (C1 : CalE P w K mg base 3 "check_row" ["row"] (spRE c2)) : CalE P w K mg base 4 "shown" ["row"] (spRE c2) := by
  refine D.okE sc_shown (fun vs H Q E h => ?_) (fun f cdv A outer s H vs Q E hr h => ?_)
  · obtain ⟨a, row, rfl, _⟩ := h
    rfl
  · obtain ⟨a, row, rfl, h⟩ := h
    exact ⟨_, pss_cons (ps_expr (pe_fnE C1 passes_def hr (pa_cons (pv 0) pa_nil))) pss_never, _, rfl, a, row, rfl, h⟩
theorem ok_peopleE (D : Def K mg "people" s_people ["row"]) (C1 : CalE P w K mg base 3 "check_row" ["row"] (spRE c2)) : CalE P w K mg base 4 "people" ["row"] (spRE c2) := by
  refine D.okE sc_people (fun vs H Q E h => ?_) (fun f cdv A outer s H vs Q E hr h => ?_)
  · obtain ⟨a, row, rfl, _⟩ := h
    rfl
  · obtain ⟨a, row, rfl, h⟩ := h
    exact ⟨_, pss_cons (ps_expr (pe_fnE C1 passes_def hr (pa_cons (pv 0) pa_nil))) pss_never, _, rfl, a, row, rfl, h⟩
theorem ok_groupE (D : Def K mg "group" s_group ["row", "one", "other"]) (X3 : Err K mg "NoPerson" c3) (C1 : CalE P w K mg base 4 "people" ["row"] (fun vs H Q E => spPeople vs H Q E ∨ spRE c2 vs H Q E)) (C2 : Cal P w K mg base 2 "are_two_people" ["one", "other", "count"] spTwoP) : CalE P w K mg base 5 "group" ["row", "one", "other"] (spTE c2 c3) := by
  refine D.okE sc_group (fun vs H Q E h => ?_) (fun f cdv A outer s H vs Q E hr h => ?_)
  · obtain ⟨a, row, x, y, rfl, _⟩ := h
    rfl
  · obtain ⟨a, row, x, y, rfl, ha, hl, hx, hy, h⟩ := h
    refine ⟨_, pss_cons (ps_set (i := 3) sc_group.nd rfl (Or.inl rfl) (pe_fnE C1 passes_def hr (pa_cons (pv 0) pa_nil)))
      (pss_cons (ps_if (pt_not (pt_val (pe_fn C2 (hr.mono (by decide)) (pa_cons (pv 1) (pa_cons (pv 2) (pa_cons (pv 3) pa_nil)))))) (pss_one (ps_raise throws_def X3.ex X3.nm (by rfl) rfl (pe_join (pj_cons (pe_fmtI (pv 1)) (pj_cons pe_str (pj_cons (pe_fmtI (pv 2)) (pj_cons pe_str (pj_cons (pe_fmtI (pv 3)) pj_nil))))) (by decide)))) pss_nil) pss_never), ?_⟩
    refine ⟨_, rfl, ?_⟩
    rcases h with ⟨hno, q⟩ | ⟨sz, s1, s4, hrow, hne, q⟩
    · exact .inr ⟨a, row, rfl, ha, hl, hno, q⟩
    · refine .inl ⟨a, row, sz, rfl, ha, s1, s4, hrow, fun H1 e1 => ?_⟩
      refine ⟨_, rfl, _, rfl, _, rfl, x, y, _, rfl, _, rfl, ?_⟩
      rw [decide_eq_false hne]
      exact iteT ⟨_, rfl, _, rfl, log18 hx, fun y1 hy1 => ⟨y1, rfl, hy1, _, rfl, by decide, _, rfl, _, rfl, log18 hy, fun y2 hy2 => ⟨y2, rfl, hy2, _, rfl, by decide, _, rfl, _, rfl, log18 (small18 (by omega)), fun y3 hy3 => ⟨y3, rfl, hy3, fun z => q H1 e1⟩⟩⟩⟩
theorem ok_thirdE (D : Def K mg "third" s_third ["row", "one", "other"]) (hS : mg "sum" = none) (C1 : CalE P w K mg base 5 "group" ["row", "one", "other"] (spTE c2 c3)) : CalE P w K mg base 6 "third" ["row", "one", "other"] (spTE c2 c3) := by
  refine D.okE sc_third (fun vs H Q E h => ?_) (fun f cdv A outer s H vs Q E hr h => ?_)
  · obtain ⟨a, row, x, y, rfl, _⟩ := h
    rfl
  · obtain ⟨a, row, x, y, rfl, h⟩ := h
    exact ⟨_, pss_one (ps_ret (pe_op op_sub (pe_op op_sub (pe_callB (call_sumT rfl) (by rfl) hS PyProof.Rows.boot_sum (pa_cons (pe_fnE C1 passes_def hr (pa_cons (pv 0) (pa_cons (pv 1) (pa_cons (pv 2) pa_nil)))) pa_nil)) (pv 1)) (pv 2))), _, rfl, _, rfl, _, rfl, a, row, x, y, rfl, h⟩
theorem ok_dayE (D : Def K mg "day" s_day ["row", "person"]) (X3 : Err K mg "NoPerson" c3) (C1 : CalE P w K mg base 4 "people" ["row"] (fun vs H Q E => spPeople vs H Q E ∨ spRE c2 vs H Q E)) (C2 : Cal P w K mg base 1 "is_person" ["person", "count"] spIsPerson) : CalE P w K mg base 5 "day" ["row", "person"] (spDE c2 c3) := by
  refine D.okE sc_day (fun vs H Q E h => ?_) (fun f cdv A outer s H vs Q E hr h => ?_)
  · obtain ⟨a, row, x, rfl, _⟩ := h
    rfl
  · obtain ⟨a, row, x, rfl, ha, hl, hx, h⟩ := h
    refine ⟨_, pss_cons (ps_set (i := 2) sc_day.nd rfl (Or.inl rfl) (pe_fnE C1 passes_def hr (pa_cons (pv 0) pa_nil)))
      (pss_cons (ps_if (pt_not (pt_val (pe_fn C2 (hr.mono (by decide)) (pa_cons (pv 1) (pa_cons (pv 2) pa_nil))))) (pss_one (ps_raise throws_def X3.ex X3.nm (by rfl) rfl (pe_join (pj_cons (pe_fmtI (pv 1)) (pj_cons pe_str (pj_cons (pe_fmtI (pv 2)) pj_nil))) (by decide)))) pss_nil) pss_never), ?_⟩
    refine ⟨_, rfl, ?_⟩
    rcases h with ⟨hno, q⟩ | ⟨sz, s1, s4, hrow, hne, q⟩
    · exact .inr ⟨a, row, rfl, ha, hl, hno, q⟩
    · refine .inl ⟨a, row, sz, rfl, ha, s1, s4, hrow, fun H1 e1 => ?_⟩
      refine ⟨_, rfl, _, rfl, x, _, rfl, _, rfl, ?_⟩
      rw [decide_eq_false hne]
      exact iteT ⟨_, rfl, _, rfl, log18 hx, fun y1 hy1 => ⟨y1, rfl, hy1, _, rfl, by decide, _, rfl, _, rfl, log18 (small18 (by omega)), fun y3 hy3 => ⟨y3, rfl, hy3, fun z => q H1 e1⟩⟩⟩
theorem ok_isGroupE (D : Def K mg "is_group" s_is_group ["row", "some"]) (C1 : CalE P w K mg base 4 "people" ["row"] (spRE c2)) : CalE P w K mg base 5 "is_group" ["row", "some"] (spIGE c2) := by
  refine D.okE sc_isGroup (fun vs H Q E h => ?_) (fun f cdv A outer s H vs Q E hr h => ?_)
  · obtain ⟨a, p, row, rfl, _⟩ := h
    rfl
  · obtain ⟨a, p, row, rfl, h⟩ := h
    exact ⟨_, pss_cons (ps_set (i := 2) sc_isGroup.nd rfl (Or.inl rfl) (pe_fnE C1 passes_def hr (pa_cons (pv 0) pa_nil))) pss_never, _, rfl, a, row, rfl, h⟩
theorem ok_groupsE (D : Def K mg "groups" s_groups ["row"]) (B : Bn mg) (h9 : mg "GREATEST_GROUPED" = some (.int 9 tk)) (C1 : CalE P w K mg base 4 "people" ["row"] (fun vs H Q E => spPeople vs H Q E ∨ spRE c2 vs H Q E)) (C2 : CalE P w K mg base 1 "check_size" ["size", "greatest"] (spCheckE c0)) : CalE P w K mg base 5 "groups" ["row"] (spGsE c0 c2) := by
  refine D.okE sc_groups (fun vs H Q E h => ?_) (fun f cdv A outer s H vs Q E hr h => ?_)
  · obtain ⟨a, row, rfl, _⟩ := h
    rfl
  · obtain ⟨a, row, rfl, ha, hl, h⟩ := h
    refine ⟨_, pss_cons (ps_set (i := 1) sc_groups.nd rfl (Or.inr rfl) (pe_fnE C1 passes_def hr (pa_cons (pv 0) pa_nil)))
      (pss_cons (ps_set (i := 2) sc_groups.nd rfl (Or.inl rfl) (pe_op op_fdiv (pe_callB call_len_seq (by rfl) B.len PySem.boot_len (pa_cons (pv 0) pa_nil)) pe_int))
      (pss_cons (ps_expr (pe_fnE C2 passes_def (hr.mono (by decide)) (pa_cons (pv 2) (pa_cons (pe_glob (v := .int 9) (by rfl) h9 ⟨_, rfl⟩) pa_nil)))) pss_never)), ?_⟩
    refine ⟨_, rfl, ?_⟩
    rcases h with ⟨hno, q⟩ | ⟨sz, s1, s4, hrow, q⟩
    · exact .inr ⟨a, row, rfl, ha, hl, hno, q⟩
    · refine .inl ⟨a, row, sz, rfl, ha, by omega, s4, hrow, fun H1 e1 => ?_⟩
      have hlr := hrow.1
      have el : (((row.map V.int).length : Nat) : Int) / 2 = (sz : Int) := by rw [List.length_map, hlr]; omega
      refine ⟨_, rfl, a, _, rfl, .inl (SqL.of (e1 _ _ ha)), _, _, rfl, rfl, ⟨by decide, by decide⟩, ?_⟩
      refine ⟨_, rfl, _, 9, rfl, ?_, small18 (by decide), ?_, q H1 e1⟩
      · rw [el]; exact small18 (by omega)
      · rw [el]; omega
end
end Law
namespace Law
open PySem L2 SA
theorem Out.none' {cs : Nat → Addr} {r : Option Nat} {H : Hp} {Q : VK} {E : XK} (h : Out cs r H Q E) (e : r = none) : ∀ v H', Same H H' → Q v H' := by
  rcases h with ⟨_, q⟩ | ⟨j, e2, _⟩
  · exact q
  · rw [e] at e2; cases e2
theorem Out.some' {cs : Nat → Addr} {r : Option Nat} {j : Nat} {H : Hp} {Q : VK} {E : XK} (h : Out cs r H Q E) (e : r = some j) : ∀ H', Same H H' → E (.ref (cs j)) none H' := by
  rcases h with ⟨e2, _⟩ | ⟨j2, e2, q⟩
  · rw [e] at e2; cases e2
  · rw [e] at e2; cases e2; exact q
theorem outS_no {lim n : Int} {b : Bool} (h : ¬ (1 ≤ n ∧ n ≤ lim)) : outS lim b n = some 0 := if_neg h
theorem outS_ok {lim n : Int} (h : 1 ≤ n ∧ n ≤ lim) : outS lim false n = none := by
  unfold outS
  rw [if_pos h, if_neg (fun z => by have := z.1; cases this)]
theorem outR_no {row : List Int} (h : isRowC row = false) : outR row = some 2 := if_neg (by rw [h]; decide)
theorem outR_ok {row : List Int} (h : isRowC row = true) : outR row = none := if_pos h
section
variable {P : Program} {w : World} {K : PySem.W.Frag} {mg : Str → Option Value} {base : Heap} {c0 c1 c2 c3 c4 : Addr} {k : Nat}
theorem wk_can (C : Cal P w K mg base k "can_be" ["size"] spCan) (C' : CalE P w K mg base k "can_be" ["size"] (spSE c0 400)) : CalE P w K mg base k "can_be" ["size"] (spS (csOf c0 c1 c2 c3 c4) 400 false) := by
  refine (CalE.or C.e C').imp fun vs H Q E h => ?_
  obtain ⟨n, rfl, hn, o⟩ := h
  by_cases c : 1 ≤ n ∧ n ≤ 400
  · exact .inl ⟨n, rfl, c.1, c.2, o.none' (outS_ok c) _ H (Same.refl _)⟩
  · exact .inr ⟨n, rfl, hn, c, o.some' (outS_no c) H (Same.refl _)⟩
theorem wk_reck (C : Cal P w K mg base k "reckoned" ["size"] spReck) (C' : CalE P w K mg base k "reckoned" ["size"] (spSE c0 400)) : CalE P w K mg base k "reckoned" ["size"] (spS (csOf c0 c1 c2 c3 c4) 400 false) := by
  refine (CalE.or C.e C').imp fun vs H Q E h => ?_
  obtain ⟨n, rfl, hn, o⟩ := h
  by_cases c : 1 ≤ n ∧ n ≤ 400
  · exact .inl ⟨n, rfl, c.1, c.2, fun p hp => o.none' (outS_ok c) _ _ (same_upd (Same.refl _) hp)⟩
  · exact .inr ⟨n, rfl, hn, c, o.some' (outS_no c) H (Same.refl _)⟩
theorem wk_many (C : Cal P w K mg base k "many" ["size"] spMany) (C' : CalE P w K mg base k "many" ["size"] (spSE c0 8)) : CalE P w K mg base k "many" ["size"] (spS (csOf c0 c1 c2 c3 c4) 8 false) := by
  refine (CalE.or C.e C').imp fun vs H Q E h => ?_
  obtain ⟨n, rfl, hn, o⟩ := h
  by_cases c : 1 ≤ n ∧ n ≤ 8
  · obtain ⟨m, rfl⟩ := Int.eq_ofNat_of_zero_le (show 0 ≤ n by omega)
    exact .inl ⟨m, rfl, by omega, by omega, fun H' s' => o.none' (outS_ok c) _ _ s'⟩
  · exact .inr ⟨n, rfl, hn, c, o.some' (outS_no c) H (Same.refl _)⟩
theorem wk_rows (C : Cal P w K mg base k "rows" ["size"] spRows) (C' : CalE P w K mg base k "rows" ["size"] (spSE c0 5)) : CalE P w K mg base k "rows" ["size"] (spS (csOf c0 c1 c2 c3 c4) 5 false) := by
  refine (CalE.or C.e C').imp fun vs H Q E h => ?_
  obtain ⟨n, rfl, hn, o⟩ := h
  by_cases c : 1 ≤ n ∧ n ≤ 5
  · obtain ⟨m, rfl⟩ := Int.eq_ofNat_of_zero_le (show 0 ≤ n by omega)
    exact .inl ⟨m, rfl, by omega, by omega, fun l xs H' _ _ _ s' => o.none' (outS_ok c) _ _ s'⟩
  · exact .inr ⟨n, rfl, hn, c, o.some' (outS_no c) H (Same.refl _)⟩
theorem wk_rowOf (C : Cal P w K mg base k "row_of" ["size"] spRowOf) (C' : CalE P w K mg base k "row_of" ["size"] (spSE c0 400)) (C'' : CalE P w K mg base k "row_of" ["size"] (spRowOfE c1)) : CalE P w K mg base k "row_of" ["size"] (spS (csOf c0 c1 c2 c3 c4) 400 true) := by
  refine (CalE.or C.e (CalE.or C' C'')).imp fun vs H Q E h => ?_
  obtain ⟨n, rfl, hn, o⟩ := h
  by_cases c : 1 ≤ n ∧ n ≤ 400
  · obtain ⟨m, rfl⟩ := Int.eq_ofNat_of_zero_le (show 0 ≤ n by omega)
    by_cases d : (m : Int) % 4 > 1
    · have e : outS 400 true (m : Int) = some 1 := by unfold outS; rw [if_pos c, if_pos ⟨rfl, d⟩]
      exact .inr (.inr ⟨m, rfl, by omega, by omega, by omega, o.some' e H (Same.refl _)⟩)
    · have e : outS 400 true (m : Int) = none := by unfold outS; rw [if_pos c, if_neg (fun z => d z.2)]
      exact .inl ⟨m, rfl, by omega, by omega, by omega, fun l H' _ _ s' => o.none' e _ _ s'⟩
  · exact .inr (.inl ⟨n, rfl, hn, c, o.some' (outS_no c) H (Same.refl _)⟩)
theorem wk_contrary (C : Cal P w K mg base k "contrary" ["row"] spContrary) (C' : CalE P w K mg base k "contrary" ["row"] (spRE c2)) : CalE P w K mg base k "contrary" ["row"] (spR (csOf c0 c1 c2 c3 c4)) := by
  refine (CalE.or C.e C').imp fun vs H Q E h => ?_
  obtain ⟨a, row, rfl, ha, hl, o⟩ := h
  cases c : isRowC row with
  | true => exact .inl ⟨a, row, rfl, ha, by omega, (isRowC_iff _).mp c, fun l H' _ _ s' => o.none' (outR_ok c) _ _ s'⟩
  | false => exact .inr ⟨a, row, rfl, ha, hl, c, o.some' (outR_no c)⟩
theorem wk_places (C : Cal P w K mg base k "places" ["row"] spPlaces) (C' : CalE P w K mg base k "places" ["row"] (spRE c2)) : CalE P w K mg base k "places" ["row"] (spR (csOf c0 c1 c2 c3 c4)) := by
  refine (CalE.or C.e C').imp fun vs H Q E h => ?_
  obtain ⟨a, row, rfl, ha, hl, o⟩ := h
  cases c : isRowC row with
  | true =>
    obtain ⟨s, s1, s4, hr⟩ := (isRowC_iff _).mp c
    exact .inl ⟨a, row, s, rfl, ha, s1, s4, hr, fun l xs H' _ _ _ s' => o.none' (outR_ok c) _ _ s'⟩
  | false => exact .inr ⟨a, row, rfl, ha, hl, c, o.some' (outR_no c)⟩
theorem wk_shown (C : Cal P w K mg base k "shown" ["row"] spShown) (C' : CalE P w K mg base k "shown" ["row"] (spRE c2)) : CalE P w K mg base k "shown" ["row"] (spR (csOf c0 c1 c2 c3 c4)) := by
  refine (CalE.or C.e C').imp fun vs H Q E h => ?_
  obtain ⟨a, row, rfl, ha, hl, o⟩ := h
  cases c : isRowC row with
  | true =>
    obtain ⟨s, s1, s4, hr⟩ := (isRowC_iff _).mp c
    exact .inl ⟨a, row, s, rfl, ha, s1, s4, hr, fun H' s' => o.none' (outR_ok c) _ _ s'⟩
  | false => exact .inr ⟨a, row, rfl, ha, hl, c, o.some' (outR_no c)⟩
theorem wk_people (C : Cal P w K mg base k "people" ["row"] spPeople) (C' : CalE P w K mg base k "people" ["row"] (spRE c2)) : CalE P w K mg base k "people" ["row"] (spR (csOf c0 c1 c2 c3 c4)) := by
  refine (CalE.or C.e C').imp fun vs H Q E h => ?_
  obtain ⟨a, row, rfl, ha, hl, o⟩ := h
  cases c : isRowC row with
  | true =>
    obtain ⟨s, s1, s4, hr⟩ := (isRowC_iff _).mp c
    exact .inl ⟨a, row, s, rfl, ha, s1, s4, hr, fun H' s' => o.none' (outR_ok c) _ _ s'⟩
  | false => exact .inr ⟨a, row, rfl, ha, hl, c, o.some' (outR_no c)⟩
theorem wk_isGroup (C : Cal P w K mg base k "is_group" ["row", "some"] spIsGroup) (C' : CalE P w K mg base k "is_group" ["row", "some"] (spIGE c2)) : CalE P w K mg base k "is_group" ["row", "some"] (spIG (csOf c0 c1 c2 c3 c4)) := by
  refine (CalE.or C.e C').imp fun vs H Q E h => ?_
  obtain ⟨a, p, row, x, y, z, rfl, ha, hl, hp, o⟩ := h
  cases c : isRowC row with
  | true =>
    obtain ⟨s, s1, s4, hr⟩ := (isRowC_iff _).mp c
    exact .inl ⟨a, p, row, s, x, y, z, rfl, ha, hp, s1, s4, hr, fun H' s' => o.none' (outR_ok c) _ _ s'⟩
  | false => exact .inr ⟨a, p, row, rfl, ha, hl, c, o.some' (outR_no c)⟩
theorem wk_groups (C : Cal P w K mg base k "groups" ["row"] spGroups) (C' : CalE P w K mg base k "groups" ["row"] (spGsE c0 c2)) : CalE P w K mg base k "groups" ["row"] (spGs (csOf c0 c1 c2 c3 c4)) := by
  refine (CalE.or C.e C').imp fun vs H Q E h => ?_
  obtain ⟨a, row, rfl, ha, hl, o⟩ := h
  cases c : isRowC row with
  | true =>
    obtain ⟨s, s1, s4, hr⟩ := (isRowC_iff _).mp c
    have hlr := hr.1
    by_cases d : row.length ≤ 18
    · have e : outG row = none := by unfold outG; rw [if_pos c, if_pos d]
      exact .inl ⟨a, row, s, rfl, ha, s1, by omega, hr, fun l xs ts H' _ _ _ _ _ s' => o.none' e _ _ s'⟩
    · have e : outG row = some 0 := by unfold outG; rw [if_pos c, if_neg d]
      exact .inr ⟨a, row, rfl, ha, hl, .inr ⟨s, by omega, s4, hr, o.some' e⟩⟩
  | false =>
    have e : outG row = some 2 := by unfold outG; rw [if_neg (by rw [c]; decide)]
    exact .inr ⟨a, row, rfl, ha, hl, .inl ⟨c, o.some' e⟩⟩
theorem wk_T {f : Str} {Pst : Sp} (hP : ∀ (a : Addr) (row : List Int) (s : Nat) (x y : Int) (H : Hp) (Q : VK) (E : XK), H a = some (.lst (row.map V.int)) → 1 ≤ s → s ≤ 400 → RowOf s row → 0 ≤ x → x < 6 * s + 1 → 0 ≤ y → y < 6 * s + 1 → x ≠ y → (∀ v H', Same H H' → Q v H') → Pst [.ref a, .int x, .int y] H Q E)
    (C : Cal P w K mg base k f ["row", "one", "other"] Pst) (C' : CalE P w K mg base k f ["row", "one", "other"] (spTE c2 c3)) : CalE P w K mg base k f ["row", "one", "other"] (spT (csOf c0 c1 c2 c3 c4)) := by
  refine (CalE.or C.e C').imp fun vs H Q E h => ?_
  obtain ⟨a, row, x, y, rfl, ha, hl, hx, hy, o⟩ := h
  cases c : isRowC row with
  | true =>
    obtain ⟨s, s1, s4, hr⟩ := (isRowC_iff _).mp c
    have hlr := hr.1
    by_cases d : 0 ≤ x ∧ x < 3 * row.length + 1 ∧ 0 ≤ y ∧ y < 3 * row.length + 1 ∧ x ≠ y
    · have e : outT row x y = none := by unfold outT; rw [if_pos c, if_pos d]
      exact .inl (hP a row s x y H Q E ha s1 s4 hr d.1 (by omega) d.2.2.1 (by omega) d.2.2.2.2 (o.none' e))
    · have e : outT row x y = some 3 := by unfold outT; rw [if_pos c, if_neg d]
      refine .inr ⟨a, row, x, y, rfl, ha, hl, hx, hy, .inr ⟨s, s1, s4, hr, fun z => d ?_, o.some' e⟩⟩
      obtain ⟨⟨z1, z2⟩, ⟨z3, z4⟩, z5⟩ := z
      exact ⟨z1, by omega, z3, by omega, z5⟩
  | false =>
    have e : outT row x y = some 2 := by unfold outT; rw [if_neg (by rw [c]; decide)]
    exact .inr ⟨a, row, x, y, rfl, ha, hl, hx, hy, .inl ⟨c, o.some' e⟩⟩
theorem wk_group (C : Cal P w K mg base k "group" ["row", "one", "other"] spGroup) (C' : CalE P w K mg base k "group" ["row", "one", "other"] (spTE c2 c3)) : CalE P w K mg base k "group" ["row", "one", "other"] (spT (csOf c0 c1 c2 c3 c4)) :=
  wk_T (fun a row s x y H Q E ha s1 s4 hr x0 x1 y0 y1 hne q => ⟨a, row, s, x, y, rfl, ha, s1, s4, hr, x0, x1, y0, y1, hne, fun z p ms H' _ _ _ s' => q _ _ s'⟩) C C'
theorem wk_third (C : Cal P w K mg base k "third" ["row", "one", "other"] spThird) (C' : CalE P w K mg base k "third" ["row", "one", "other"] (spTE c2 c3)) : CalE P w K mg base k "third" ["row", "one", "other"] (spT (csOf c0 c1 c2 c3 c4)) :=
  wk_T (fun a row s x y H Q E ha s1 s4 hr x0 x1 y0 y1 hne q => ⟨a, row, s, x, y, rfl, ha, s1, s4, hr, x0, x1, y0, y1, hne, fun z H' _ s' => q _ _ s'⟩) C C'
theorem wk_day (C : Cal P w K mg base k "day" ["row", "person"] spDay) (C' : CalE P w K mg base k "day" ["row", "person"] (spDE c2 c3)) : CalE P w K mg base k "day" ["row", "person"] (spD (csOf c0 c1 c2 c3 c4)) := by
  refine (CalE.or C.e C').imp fun vs H Q E h => ?_
  obtain ⟨a, row, x, rfl, ha, hl, hx, o⟩ := h
  cases c : isRowC row with
  | true =>
    obtain ⟨s, s1, s4, hr⟩ := (isRowC_iff _).mp c
    have hlr := hr.1
    by_cases d : 0 ≤ x ∧ x < 3 * row.length + 1
    · have e : outD row x = none := by unfold outD; rw [if_pos c, if_pos d]
      exact .inl ⟨a, row, s, x, rfl, ha, s1, s4, hr, d.1, by omega, fun l xs ts H' _ _ _ _ _ s' => o.none' e _ _ s'⟩
    · have e : outD row x = some 3 := by unfold outD; rw [if_pos c, if_neg d]
      exact .inr ⟨a, row, x, rfl, ha, hl, hx, .inr ⟨s, s1, s4, hr, fun z => d ⟨z.1, by omega⟩, o.some' e⟩⟩
  | false =>
    have e : outD row x = some 2 := by unfold outD; rw [if_neg (by rw [c]; decide)]
    exact .inr ⟨a, row, x, rfl, ha, hl, hx, .inl ⟨c, o.some' e⟩⟩
end
end Law
namespace Law
open PySem L2 SA
seal PE PA PT PW PS PSs PG PGs PI PC PIfs PSet OpR UnR CallR IxR SlR PO PJ
section
variable {P : Program} {w : World} {K : PySem.W.Frag} {mg : Str → Option Value} {base : Heap} {cs : Nat → Addr} {c0 c1 c2 c3 c4 : Addr}
theorem sc_first12 : FnScope ["which", "size", "row"] ["which", "size", "row"] (defScope s__law_first) := ⟨rfl, rfl, rfl, by decide +kernel, rfl, by decide +kernel, by decide +kernel⟩
theorem ok_first12 {k : Nat} (D : Def K mg "_law_first" s__law_first ["which", "size", "row"]) (C0 : CalE P w K mg base k "can_be" ["size"] (spS cs 400 false)) (C1 : CalE P w K mg base k "reckoned" ["size"] (spS cs 400 false)) (C2 : CalE P w K mg base k "row_of" ["size"] (spS cs 400 true)) (C3 : CalE P w K mg base k "many" ["size"] (spS cs 8 false)) (C4 : CalE P w K mg base k "rows" ["size"] (spS cs 5 false)) (C5 : CalE P w K mg base k "places" ["row"] (spR cs)) (C6 : CalE P w K mg base k "contrary" ["row"] (spR cs)) (C7 : CalE P w K mg base k "shown" ["row"] (spR cs)) (C8 : CalE P w K mg base k "people" ["row"] (spR cs)) : CalE P w K mg base (k + 1) "_law_first" ["which", "size", "row"] (sp1 cs) := by
  refine D.okE sc_first12 (fun vs H Q E h => ?_) (fun f cdv A outer sh H vs Q E hr h => ?_)
  · obtain ⟨w, n, a, row, rfl, _⟩ := h
    rfl
  · obtain ⟨w, n, a, row, rfl, hw, hn, ha, hl, h⟩ := h
    have ho : out1 w n row = none → ∀ v H', Same H H' → Q v H' := fun e => by
      rcases h with ⟨_, q⟩ | ⟨j, e2, _⟩
      · exact q
      · rw [e] at e2; cases e2
    have he : ∀ j, out1 w n row = some j → ∀ H', Same H H' → E (.ref (cs j)) none H' := fun j e => by
      rcases h with ⟨e2, _⟩ | ⟨j2, e2, q⟩
      · rw [e] at e2; cases e2
      · rw [e] at e2; cases e2; exact q
    clear h
    refine ⟨_, (pss_cons (ps_if (pt_cmpR op_eq (pv 0) pe_int (nomark _)) (pss_one (ps_expr (pe_fnE C0 passes_def hr (pa_cons (pv 1) pa_nil)))) pss_nil)
      (pss_cons (ps_if (pt_cmpR op_eq (pv 0) pe_int (nomark _)) (pss_one (ps_expr (pe_fnE C1 passes_def hr (pa_cons (pv 1) pa_nil)))) pss_nil)
      (pss_cons (ps_if (pt_cmpR op_eq (pv 0) pe_int (nomark _)) (pss_one (ps_expr (pe_fnE C2 passes_def hr (pa_cons (pv 1) pa_nil)))) pss_nil)
      (pss_cons (ps_if (pt_cmpR op_eq (pv 0) pe_int (nomark _)) (pss_one (ps_expr (pe_fnE C3 passes_def hr (pa_cons (pv 1) pa_nil)))) pss_nil)
      (pss_cons (ps_if (pt_cmpR op_eq (pv 0) pe_int (nomark _)) (pss_one (ps_expr (pe_fnE C4 passes_def hr (pa_cons (pv 1) pa_nil)))) pss_nil)
      (pss_cons (ps_if (pt_cmpR op_eq (pv 0) pe_int (nomark _)) (pss_one (ps_expr (pe_fnE C5 passes_def hr (pa_cons (pv 2) pa_nil)))) pss_nil)
      (pss_cons (ps_if (pt_cmpR op_eq (pv 0) pe_int (nomark _)) (pss_one (ps_expr (pe_fnE C6 passes_def hr (pa_cons (pv 2) pa_nil)))) pss_nil)
      (pss_cons (ps_if (pt_cmpR op_eq (pv 0) pe_int (nomark _)) (pss_one (ps_expr (pe_fnE C7 passes_def hr (pa_cons (pv 2) pa_nil)))) pss_nil)
      (pss_one (ps_if (pt_cmpR op_eq (pv 0) pe_int (nomark _)) (pss_one (ps_expr (pe_fnE C8 passes_def hr (pa_cons (pv 2) pa_nil)))) pss_nil)))))))))), ?_⟩
    have hc : w = 0 ∨ w = 1 ∨ w = 2 ∨ w = 3 ∨ w = 4 ∨ w = 5 ∨ w = 6 ∨ w = 7 ∨ w = 8 ∨ w = 9 ∨ w = 10 ∨ w = 11 ∨ w = 12 ∨ w = 13 := by omega
    rcases hc with rfl | rfl | rfl | rfl | rfl | rfl | rfl | rfl | rfl | rfl | rfl | rfl | rfl | rfl
    · refine ⟨_, rfl, rfl, _, rfl, iteT ⟨_, rfl, n, rfl, hn, Out.go (fun e v H1 s1 => ?_) fun j e H1 s1 => he j e H1 s1⟩⟩
      refine ⟨_, rfl, rfl, _, rfl, iteF ?_⟩
      refine ⟨_, rfl, rfl, _, rfl, iteF ?_⟩
      refine ⟨_, rfl, rfl, _, rfl, iteF ?_⟩
      refine ⟨_, rfl, rfl, _, rfl, iteF ?_⟩
      refine ⟨_, rfl, rfl, _, rfl, iteF ?_⟩
      refine ⟨_, rfl, rfl, _, rfl, iteF ?_⟩
      refine ⟨_, rfl, rfl, _, rfl, iteF ?_⟩
      refine ⟨_, rfl, rfl, _, rfl, iteF ?_⟩
      exact ho e _ _ s1
    · refine ⟨_, rfl, rfl, _, rfl, iteF ?_⟩
      refine ⟨_, rfl, rfl, _, rfl, iteT ⟨_, rfl, n, rfl, hn, Out.go (fun e v H1 s1 => ?_) fun j e H1 s1 => he j e H1 s1⟩⟩
      refine ⟨_, rfl, rfl, _, rfl, iteF ?_⟩
      refine ⟨_, rfl, rfl, _, rfl, iteF ?_⟩
      refine ⟨_, rfl, rfl, _, rfl, iteF ?_⟩
      refine ⟨_, rfl, rfl, _, rfl, iteF ?_⟩
      refine ⟨_, rfl, rfl, _, rfl, iteF ?_⟩
      refine ⟨_, rfl, rfl, _, rfl, iteF ?_⟩
      refine ⟨_, rfl, rfl, _, rfl, iteF ?_⟩
      exact ho e _ _ s1
    · refine ⟨_, rfl, rfl, _, rfl, iteF ?_⟩
      refine ⟨_, rfl, rfl, _, rfl, iteF ?_⟩
      refine ⟨_, rfl, rfl, _, rfl, iteT ⟨_, rfl, n, rfl, hn, Out.go (fun e v H1 s1 => ?_) fun j e H1 s1 => he j e H1 s1⟩⟩
      refine ⟨_, rfl, rfl, _, rfl, iteF ?_⟩
      refine ⟨_, rfl, rfl, _, rfl, iteF ?_⟩
      refine ⟨_, rfl, rfl, _, rfl, iteF ?_⟩
      refine ⟨_, rfl, rfl, _, rfl, iteF ?_⟩
      refine ⟨_, rfl, rfl, _, rfl, iteF ?_⟩
      refine ⟨_, rfl, rfl, _, rfl, iteF ?_⟩
      exact ho e _ _ s1
    · refine ⟨_, rfl, rfl, _, rfl, iteF ?_⟩
      refine ⟨_, rfl, rfl, _, rfl, iteF ?_⟩
      refine ⟨_, rfl, rfl, _, rfl, iteF ?_⟩
      refine ⟨_, rfl, rfl, _, rfl, iteT ⟨_, rfl, n, rfl, hn, Out.go (fun e v H1 s1 => ?_) fun j e H1 s1 => he j e H1 s1⟩⟩
      refine ⟨_, rfl, rfl, _, rfl, iteF ?_⟩
      refine ⟨_, rfl, rfl, _, rfl, iteF ?_⟩
      refine ⟨_, rfl, rfl, _, rfl, iteF ?_⟩
      refine ⟨_, rfl, rfl, _, rfl, iteF ?_⟩
      refine ⟨_, rfl, rfl, _, rfl, iteF ?_⟩
      exact ho e _ _ s1
    · refine ⟨_, rfl, rfl, _, rfl, iteF ?_⟩
      refine ⟨_, rfl, rfl, _, rfl, iteF ?_⟩
      refine ⟨_, rfl, rfl, _, rfl, iteF ?_⟩
      refine ⟨_, rfl, rfl, _, rfl, iteF ?_⟩
      refine ⟨_, rfl, rfl, _, rfl, iteT ⟨_, rfl, n, rfl, hn, Out.go (fun e v H1 s1 => ?_) fun j e H1 s1 => he j e H1 s1⟩⟩
      refine ⟨_, rfl, rfl, _, rfl, iteF ?_⟩
      refine ⟨_, rfl, rfl, _, rfl, iteF ?_⟩
      refine ⟨_, rfl, rfl, _, rfl, iteF ?_⟩
      refine ⟨_, rfl, rfl, _, rfl, iteF ?_⟩
      exact ho e _ _ s1
    · refine ⟨_, rfl, rfl, _, rfl, iteF ?_⟩
      refine ⟨_, rfl, rfl, _, rfl, iteF ?_⟩
      refine ⟨_, rfl, rfl, _, rfl, iteF ?_⟩
      refine ⟨_, rfl, rfl, _, rfl, iteF ?_⟩
      refine ⟨_, rfl, rfl, _, rfl, iteF ?_⟩
      refine ⟨_, rfl, rfl, _, rfl, iteT ⟨_, rfl, a, row, rfl, ha, hl, Out.go (fun e v H1 s1 => ?_) fun j e H1 s1 => he j e H1 s1⟩⟩
      refine ⟨_, rfl, rfl, _, rfl, iteF ?_⟩
      refine ⟨_, rfl, rfl, _, rfl, iteF ?_⟩
      refine ⟨_, rfl, rfl, _, rfl, iteF ?_⟩
      exact ho e _ _ s1
    · refine ⟨_, rfl, rfl, _, rfl, iteF ?_⟩
      refine ⟨_, rfl, rfl, _, rfl, iteF ?_⟩
      refine ⟨_, rfl, rfl, _, rfl, iteF ?_⟩
      refine ⟨_, rfl, rfl, _, rfl, iteF ?_⟩
      refine ⟨_, rfl, rfl, _, rfl, iteF ?_⟩
      refine ⟨_, rfl, rfl, _, rfl, iteF ?_⟩
      refine ⟨_, rfl, rfl, _, rfl, iteT ⟨_, rfl, a, row, rfl, ha, hl, Out.go (fun e v H1 s1 => ?_) fun j e H1 s1 => he j e H1 s1⟩⟩
      refine ⟨_, rfl, rfl, _, rfl, iteF ?_⟩
      refine ⟨_, rfl, rfl, _, rfl, iteF ?_⟩
      exact ho e _ _ s1
    · refine ⟨_, rfl, rfl, _, rfl, iteF ?_⟩
      refine ⟨_, rfl, rfl, _, rfl, iteF ?_⟩
      refine ⟨_, rfl, rfl, _, rfl, iteF ?_⟩
      refine ⟨_, rfl, rfl, _, rfl, iteF ?_⟩
      refine ⟨_, rfl, rfl, _, rfl, iteF ?_⟩
      refine ⟨_, rfl, rfl, _, rfl, iteF ?_⟩
      refine ⟨_, rfl, rfl, _, rfl, iteF ?_⟩
      refine ⟨_, rfl, rfl, _, rfl, iteT ⟨_, rfl, a, row, rfl, ha, hl, Out.go (fun e v H1 s1 => ?_) fun j e H1 s1 => he j e H1 s1⟩⟩
      refine ⟨_, rfl, rfl, _, rfl, iteF ?_⟩
      exact ho e _ _ s1
    · refine ⟨_, rfl, rfl, _, rfl, iteF ?_⟩
      refine ⟨_, rfl, rfl, _, rfl, iteF ?_⟩
      refine ⟨_, rfl, rfl, _, rfl, iteF ?_⟩
      refine ⟨_, rfl, rfl, _, rfl, iteF ?_⟩
      refine ⟨_, rfl, rfl, _, rfl, iteF ?_⟩
      refine ⟨_, rfl, rfl, _, rfl, iteF ?_⟩
      refine ⟨_, rfl, rfl, _, rfl, iteF ?_⟩
      refine ⟨_, rfl, rfl, _, rfl, iteF ?_⟩
      refine ⟨_, rfl, rfl, _, rfl, iteT ⟨_, rfl, a, row, rfl, ha, hl, Out.go (fun e v H1 s1 => ?_) fun j e H1 s1 => he j e H1 s1⟩⟩
      exact ho e _ _ s1
    · refine ⟨_, rfl, rfl, _, rfl, iteF ?_⟩
      refine ⟨_, rfl, rfl, _, rfl, iteF ?_⟩
      refine ⟨_, rfl, rfl, _, rfl, iteF ?_⟩
      refine ⟨_, rfl, rfl, _, rfl, iteF ?_⟩
      refine ⟨_, rfl, rfl, _, rfl, iteF ?_⟩
      refine ⟨_, rfl, rfl, _, rfl, iteF ?_⟩
      refine ⟨_, rfl, rfl, _, rfl, iteF ?_⟩
      refine ⟨_, rfl, rfl, _, rfl, iteF ?_⟩
      refine ⟨_, rfl, rfl, _, rfl, iteF ?_⟩
      exact ho rfl _ _ (Same.refl _)
    · refine ⟨_, rfl, rfl, _, rfl, iteF ?_⟩
      refine ⟨_, rfl, rfl, _, rfl, iteF ?_⟩
      refine ⟨_, rfl, rfl, _, rfl, iteF ?_⟩
      refine ⟨_, rfl, rfl, _, rfl, iteF ?_⟩
      refine ⟨_, rfl, rfl, _, rfl, iteF ?_⟩
      refine ⟨_, rfl, rfl, _, rfl, iteF ?_⟩
      refine ⟨_, rfl, rfl, _, rfl, iteF ?_⟩
      refine ⟨_, rfl, rfl, _, rfl, iteF ?_⟩
      refine ⟨_, rfl, rfl, _, rfl, iteF ?_⟩
      exact ho rfl _ _ (Same.refl _)
    · refine ⟨_, rfl, rfl, _, rfl, iteF ?_⟩
      refine ⟨_, rfl, rfl, _, rfl, iteF ?_⟩
      refine ⟨_, rfl, rfl, _, rfl, iteF ?_⟩
      refine ⟨_, rfl, rfl, _, rfl, iteF ?_⟩
      refine ⟨_, rfl, rfl, _, rfl, iteF ?_⟩
      refine ⟨_, rfl, rfl, _, rfl, iteF ?_⟩
      refine ⟨_, rfl, rfl, _, rfl, iteF ?_⟩
      refine ⟨_, rfl, rfl, _, rfl, iteF ?_⟩
      refine ⟨_, rfl, rfl, _, rfl, iteF ?_⟩
      exact ho rfl _ _ (Same.refl _)
    · refine ⟨_, rfl, rfl, _, rfl, iteF ?_⟩
      refine ⟨_, rfl, rfl, _, rfl, iteF ?_⟩
      refine ⟨_, rfl, rfl, _, rfl, iteF ?_⟩
      refine ⟨_, rfl, rfl, _, rfl, iteF ?_⟩
      refine ⟨_, rfl, rfl, _, rfl, iteF ?_⟩
      refine ⟨_, rfl, rfl, _, rfl, iteF ?_⟩
      refine ⟨_, rfl, rfl, _, rfl, iteF ?_⟩
      refine ⟨_, rfl, rfl, _, rfl, iteF ?_⟩
      refine ⟨_, rfl, rfl, _, rfl, iteF ?_⟩
      exact ho rfl _ _ (Same.refl _)
    · refine ⟨_, rfl, rfl, _, rfl, iteF ?_⟩
      refine ⟨_, rfl, rfl, _, rfl, iteF ?_⟩
      refine ⟨_, rfl, rfl, _, rfl, iteF ?_⟩
      refine ⟨_, rfl, rfl, _, rfl, iteF ?_⟩
      refine ⟨_, rfl, rfl, _, rfl, iteF ?_⟩
      refine ⟨_, rfl, rfl, _, rfl, iteF ?_⟩
      refine ⟨_, rfl, rfl, _, rfl, iteF ?_⟩
      refine ⟨_, rfl, rfl, _, rfl, iteF ?_⟩
      refine ⟨_, rfl, rfl, _, rfl, iteF ?_⟩
      exact ho rfl _ _ (Same.refl _)
theorem sc_second12 : FnScope ["which", "row", "one", "other"] ["which", "row", "one", "other"] (defScope s__law_second) := ⟨rfl, rfl, rfl, by decide +kernel, rfl, by decide +kernel, by decide +kernel⟩
theorem ok_second12 {k : Nat} (D : Def K mg "_law_second" s__law_second ["which", "row", "one", "other"]) (C0 : CalE P w K mg base k "groups" ["row"] (spGs cs)) (C1 : CalE P w K mg base k "is_group" ["row", "some"] (spIG cs)) (C2 : CalE P w K mg base k "third" ["row", "one", "other"] (spT cs))
    (C3 : CalE P w K mg base k "group" ["row", "one", "other"] (spT cs)) (C4 : CalE P w K mg base k "day" ["row", "person"] (spD cs)) : CalE P w K mg base (k + 1) "_law_second" ["which", "row", "one", "other"] (sp2 cs) := by
  refine D.okE sc_second12 (fun vs H Q E h => ?_) (fun f cdv A outer sh H vs Q E hr h => ?_)
  · obtain ⟨w, a, row, x, y, rfl, _⟩ := h
    rfl
  · obtain ⟨w, a, row, x, y, rfl, hw, hx, hy, ha, hl, h⟩ := h
    have ho : out2 w row x y = none → ∀ v H', Same H H' → Q v H' := fun e => by
      rcases h with ⟨_, q⟩ | ⟨j, e2, _⟩
      · exact q
      · rw [e] at e2; cases e2
    have he : ∀ j, out2 w row x y = some j → ∀ H', Same H H' → E (.ref (cs j)) none H' := fun j e => by
      rcases h with ⟨e2, _⟩ | ⟨j2, e2, q⟩
      · rw [e] at e2; cases e2
      · rw [e] at e2; cases e2; exact q
    clear h
    refine ⟨_, (pss_cons (ps_if (pt_cmpR op_eq (pv 0) pe_int (nomark _)) (pss_one (ps_expr (pe_fnE C0 passes_def hr (pa_cons (pv 1) pa_nil)))) pss_nil)
      (pss_cons (ps_if (pt_cmpR op_eq (pv 0) pe_int (nomark _)) (pss_one (ps_expr (pe_fnE C1 passes_def hr (pa_cons (pv 1) (pa_cons (pe_tup (pa_cons pe_int (pa_cons pe_int (pa_cons (pe_op op_sub pe_int pe_int) pa_nil)))) pa_nil))))) pss_nil)
      (pss_cons (ps_if (pt_cmpR op_eq (pv 0) pe_int (nomark _)) (pss_one (ps_expr (pe_fnE C2 passes_def hr (pa_cons (pv 1) (pa_cons (pv 2) (pa_cons (pv 3) pa_nil)))))) pss_nil)
      (pss_cons (ps_if (pt_cmpR op_eq (pv 0) pe_int (nomark _)) (pss_one (ps_expr (pe_fnE C3 passes_def hr (pa_cons (pv 1) (pa_cons (pv 3) (pa_cons (pv 2) pa_nil)))))) pss_nil)
      (pss_one (ps_if (pt_cmpR op_eq (pv 0) pe_int (nomark _)) (pss_one (ps_expr (pe_fnE C4 passes_def hr (pa_cons (pv 1) (pa_cons (pv 3) pa_nil))))) pss_nil)))))), ?_⟩
    have hc : w = 0 ∨ w = 1 ∨ w = 2 ∨ w = 3 ∨ w = 4 ∨ w = 5 ∨ w = 6 ∨ w = 7 ∨ w = 8 ∨ w = 9 ∨ w = 10 ∨ w = 11 ∨ w = 12 ∨ w = 13 := by omega
    rcases hc with rfl | rfl | rfl | rfl | rfl | rfl | rfl | rfl | rfl | rfl | rfl | rfl | rfl | rfl
    · refine ⟨_, rfl, rfl, _, rfl, iteF ?_⟩
      refine ⟨_, rfl, rfl, _, rfl, iteF ?_⟩
      refine ⟨_, rfl, rfl, _, rfl, iteF ?_⟩
      refine ⟨_, rfl, rfl, _, rfl, iteF ?_⟩
      refine ⟨_, rfl, rfl, _, rfl, iteF ?_⟩
      exact ho rfl _ _ (Same.refl _)
    · refine ⟨_, rfl, rfl, _, rfl, iteF ?_⟩
      refine ⟨_, rfl, rfl, _, rfl, iteF ?_⟩
      refine ⟨_, rfl, rfl, _, rfl, iteF ?_⟩
      refine ⟨_, rfl, rfl, _, rfl, iteF ?_⟩
      refine ⟨_, rfl, rfl, _, rfl, iteF ?_⟩
      exact ho rfl _ _ (Same.refl _)
    · refine ⟨_, rfl, rfl, _, rfl, iteF ?_⟩
      refine ⟨_, rfl, rfl, _, rfl, iteF ?_⟩
      refine ⟨_, rfl, rfl, _, rfl, iteF ?_⟩
      refine ⟨_, rfl, rfl, _, rfl, iteF ?_⟩
      refine ⟨_, rfl, rfl, _, rfl, iteF ?_⟩
      exact ho rfl _ _ (Same.refl _)
    · refine ⟨_, rfl, rfl, _, rfl, iteF ?_⟩
      refine ⟨_, rfl, rfl, _, rfl, iteF ?_⟩
      refine ⟨_, rfl, rfl, _, rfl, iteF ?_⟩
      refine ⟨_, rfl, rfl, _, rfl, iteF ?_⟩
      refine ⟨_, rfl, rfl, _, rfl, iteF ?_⟩
      exact ho rfl _ _ (Same.refl _)
    · refine ⟨_, rfl, rfl, _, rfl, iteF ?_⟩
      refine ⟨_, rfl, rfl, _, rfl, iteF ?_⟩
      refine ⟨_, rfl, rfl, _, rfl, iteF ?_⟩
      refine ⟨_, rfl, rfl, _, rfl, iteF ?_⟩
      refine ⟨_, rfl, rfl, _, rfl, iteF ?_⟩
      exact ho rfl _ _ (Same.refl _)
    · refine ⟨_, rfl, rfl, _, rfl, iteF ?_⟩
      refine ⟨_, rfl, rfl, _, rfl, iteF ?_⟩
      refine ⟨_, rfl, rfl, _, rfl, iteF ?_⟩
      refine ⟨_, rfl, rfl, _, rfl, iteF ?_⟩
      refine ⟨_, rfl, rfl, _, rfl, iteF ?_⟩
      exact ho rfl _ _ (Same.refl _)
    · refine ⟨_, rfl, rfl, _, rfl, iteF ?_⟩
      refine ⟨_, rfl, rfl, _, rfl, iteF ?_⟩
      refine ⟨_, rfl, rfl, _, rfl, iteF ?_⟩
      refine ⟨_, rfl, rfl, _, rfl, iteF ?_⟩
      refine ⟨_, rfl, rfl, _, rfl, iteF ?_⟩
      exact ho rfl _ _ (Same.refl _)
    · refine ⟨_, rfl, rfl, _, rfl, iteF ?_⟩
      refine ⟨_, rfl, rfl, _, rfl, iteF ?_⟩
      refine ⟨_, rfl, rfl, _, rfl, iteF ?_⟩
      refine ⟨_, rfl, rfl, _, rfl, iteF ?_⟩
      refine ⟨_, rfl, rfl, _, rfl, iteF ?_⟩
      exact ho rfl _ _ (Same.refl _)
    · refine ⟨_, rfl, rfl, _, rfl, iteF ?_⟩
      refine ⟨_, rfl, rfl, _, rfl, iteF ?_⟩
      refine ⟨_, rfl, rfl, _, rfl, iteF ?_⟩
      refine ⟨_, rfl, rfl, _, rfl, iteF ?_⟩
      refine ⟨_, rfl, rfl, _, rfl, iteF ?_⟩
      exact ho rfl _ _ (Same.refl _)
    · refine ⟨_, rfl, rfl, _, rfl, iteT ⟨_, rfl, a, row, rfl, ha, hl, Out.go (fun e v H1 s1 => ?_) fun j e H1 s1 => he j e H1 s1⟩⟩
      refine ⟨_, rfl, rfl, _, rfl, iteF ?_⟩
      refine ⟨_, rfl, rfl, _, rfl, iteF ?_⟩
      refine ⟨_, rfl, rfl, _, rfl, iteF ?_⟩
      refine ⟨_, rfl, rfl, _, rfl, iteF ?_⟩
      exact ho e _ _ s1
    · refine ⟨_, rfl, rfl, _, rfl, iteF ?_⟩
      refine ⟨_, rfl, rfl, _, rfl, iteT ⟨_, rfl, _, _, rfl, rfl, by show 3 ≤ sizeLine; rw [sizeLine_eq]; decide, fun p hp => ?_⟩⟩
      have u := same_upd (o := .tup [V.int 0, V.int 1, V.int (0 - 5)]) (Same.refl _) hp
      refine ⟨a, p, row, 0, 1, 0 - 5, rfl, u _ _ ha, hl, upd_same, Out.go (fun e v H1 s1 => ?_) fun j e H1 s1 => he j e H1 (u.trans s1)⟩
      have s1 := u.trans s1
      refine ⟨_, rfl, rfl, _, rfl, iteF ?_⟩
      refine ⟨_, rfl, rfl, _, rfl, iteF ?_⟩
      refine ⟨_, rfl, rfl, _, rfl, iteF ?_⟩
      exact ho e _ _ s1
    · refine ⟨_, rfl, rfl, _, rfl, iteF ?_⟩
      refine ⟨_, rfl, rfl, _, rfl, iteF ?_⟩
      refine ⟨_, rfl, rfl, _, rfl, iteT ⟨_, rfl, _, rfl, _, rfl, a, row, x, y, rfl, ha, hl, hx, hy, Out.go (fun e v H1 s1 => ?_) fun j e H1 s1 => he j e H1 s1⟩⟩
      refine ⟨_, rfl, rfl, _, rfl, iteF ?_⟩
      refine ⟨_, rfl, rfl, _, rfl, iteF ?_⟩
      exact ho e _ _ s1
    · refine ⟨_, rfl, rfl, _, rfl, iteF ?_⟩
      refine ⟨_, rfl, rfl, _, rfl, iteF ?_⟩
      refine ⟨_, rfl, rfl, _, rfl, iteF ?_⟩
      refine ⟨_, rfl, rfl, _, rfl, iteT ⟨_, rfl, _, rfl, _, rfl, a, row, y, x, rfl, ha, hl, hy, hx, Out.go (fun e v H1 s1 => ?_) fun j e H1 s1 => he j e H1 s1⟩⟩
      refine ⟨_, rfl, rfl, _, rfl, iteF ?_⟩
      exact ho e _ _ s1
    · refine ⟨_, rfl, rfl, _, rfl, iteF ?_⟩
      refine ⟨_, rfl, rfl, _, rfl, iteF ?_⟩
      refine ⟨_, rfl, rfl, _, rfl, iteF ?_⟩
      refine ⟨_, rfl, rfl, _, rfl, iteF ?_⟩
      refine ⟨_, rfl, rfl, _, rfl, iteT ⟨_, rfl, _, rfl, a, row, y, rfl, ha, hl, hy, Out.go (fun e v H1 s1 => ?_) fun j e H1 s1 => he j e H1 s1⟩⟩
      exact ho e _ _ s1
end
end Law
namespace Law
open PySem L2 SA
seal PE PA PT PW PS PSs PG PGs PI PC PIfs PSet OpR UnR CallR IxR SlR PO PJ
section
variable {P : Program} {w : World} {K : PySem.W.Frag} {mg : Str → Option Value} {base : Heap} {c0 c1 c2 c3 c4 cA : Addr}
theorem sc_tried : FnScope ["which", "size", "row", "one", "other", "e"] ["which", "size", "row", "one", "other"] (defScope s__law_tried) := ⟨rfl, rfl, rfl, by decide +kernel, rfl, by decide +kernel, by decide +kernel⟩
theorem ok_tried {k : Nat} (D : Def K mg "_law_tried" s__law_tried ["which", "size", "row", "one", "other"]) (hA : mg "ApartError" = some (.ref cA)) (hx : ∀ j, j < 4 → PySem.W.exmOne K (.ref (csOf c0 c1 c2 c3 c4 j)) (.ref cA) = some true) (kd : ∀ j, j < 4 → Kind K c0 c1 c2 c3 c4 (csOf c0 c1 c2 c3 c4 j) j)
    (C1 : CalE P w K mg base (k + 1) "_law_first" ["which", "size", "row"] (sp1 (csOf c0 c1 c2 c3 c4))) (C2 : CalE P w K mg base (k + 1) "_law_second" ["which", "row", "one", "other"] (sp2 (csOf c0 c1 c2 c3 c4))) (C3 : CalM P w K mg base 1 "_law_word_of" ["e"] (spWord K c0 c1 c2 c3 c4)) :
    Cal P w K mg base (k + 2) "_law_tried" ["which", "size", "row", "one", "other"] spTried := by
  refine D.ok sc_tried (fun vs H Q E h => ?_) (fun f cdv A outer sh H vs Q E hr h => ?_)
  · obtain ⟨w, n, a, row, x, y, rfl, _⟩ := h
    rfl
  · obtain ⟨w, n, a, row, x, y, rfl, hw, hn, hxs, hys, ha, hl, q⟩ := h
    refine ⟨_, pss_cons (ps_try (i := 5) (Ew := fun cls _ H' => ∃ j, j < 4 ∧ cls = .ref (csOf c0 c1 c2 c3 c4 j) ∧ Same H H' ∧ outW w n row x y = some j) ⟨rfl, rfl, rfl⟩
        (fun pins Et hp => pss_cons (ps_expr (pe_fnE C1 hp hr (pa_cons (pv 0) (pa_cons (pv 1) (pa_cons (pv 2) pa_nil))))) (pss_one (ps_expr (pe_fnE C2 hp hr (pa_cons (pv 0) (pa_cons (pv 2) (pa_cons (pv 3) (pa_cons (pv 4) pa_nil))))))))
        (fun a => pss_one (ps_ret (pe_fnM C3 ((hr.m.mono (by omega)).mark _) (pa_cons (pv 5) pa_nil))))
        hA (by rfl) (fun C H' hE => by obtain ⟨j, hj, e, _⟩ := hE; cases e; exact hx j hj) sc_tried.nd rfl rfl)
      (pss_one (ps_ret pe_str)), ?_⟩
    refine ⟨⟨_, rfl, _, rfl, _, rfl, w, n, a, row, rfl, hw, hn, ha, hl, Out.go (fun e v H1 s1 => ?_) fun j e H1 s1 => ?_⟩, fun C b H' σ' hls hE hb => ?_⟩
    · refine ⟨_, rfl, _, rfl, _, rfl, _, rfl, w, a, row, x, y, rfl, hw, hxs, hys, s1 _ _ ha, hl, Out.go (fun e2 v2 H2 s2 => ?_) fun j e2 H2 s2 => ?_⟩
      · have := q H2 (s1.trans s2)
        unfold outW at this
        rw [e, e2] at this
        exact this
      · refine ⟨j, out2_lt _ _ _ _ _ e2, rfl, s1.trans s2, ?_⟩
        unfold outW; rw [e, e2]; rfl
    · refine ⟨j, out1_lt _ _ _ _ e, rfl, s1, ?_⟩
      unfold outW; rw [e]; rfl
    · obtain ⟨j, hj, e, s1, eo⟩ := hE
      cases e
      have hls : σ'.length = 6 := hls
      refine ⟨_, by rw [List.getElem?_set_self (by omega)], b, _, j, rfl, upd_same, by omega, kd j hj, fun H2 s2 => ?_⟩
      have := q H2 (s1.trans ((same_upd (Same.refl _) hb).trans s2))
      rw [eo] at this
      exact this
end
end Law
namespace Law
open PySem L2 SA
theorem count_other {l : List Int} {i : Nat} {n v : Int} (h : l[i]? = some n) (hv : v ≠ n) : (l.set i v).count n + 1 = l.count n := by
  induction l generalizing i with
  | nil => simp at h
  | cons a r ih =>
    cases i with
    | zero =>
      simp at h
      subst h
      have e : (v == a) = false := by simpa using hv
      rw [List.set_cons_zero, List.count_cons, List.count_cons, e]
      simp
    | succ i =>
      simp at h
      have := ih h
      rw [List.set_cons_succ, List.count_cons, List.count_cons]
      omega
theorem not_row_odd {row : List Int} (h : row.length % 2 = 1) : ¬ IsRow row := by
  rintro ⟨s, _, _, hr⟩
  have := hr.1; omega
theorem not_row_set {s : Nat} {row : List Int} (hr : RowOf s row) {i : Nat} {n v : Int} (h : row[i]? = some n) (hv : v ≠ n) : ¬ IsRow (row.set i v) := by
  rintro ⟨s', h1, h2, hr'⟩
  have e1 := hr'.1
  rw [List.length_set, hr.1] at e1
  have es : s' = s := by omega
  subst es
  have hm := hr.mem n (List.mem_of_getElem? h)
  obtain ⟨k, rfl⟩ : ∃ k : Nat, n = (k : Int) := ⟨n.toNat, by omega⟩
  have c1 := hr.count (n := k) (by omega) (by omega)
  have c2 := hr'.count (n := k) (by omega) (by omega)
  have := count_other h hv
  omega
theorem cut_last (ns : List Int) : cutV (ns.map V.int) none (some (-1 : Int)) = ns.dropLast.map V.int := by
  unfold cutV
  rw [HT.sIx_none, List.drop_zero, Nat.sub_zero]
  have e : HT.sIx (ns.map V.int).length (ns.map V.int).length (some (-1 : Int)) = (ns.map V.int).length - 1 := by
    show (if (-1 : Int) < 0 then ((-1 : Int) + (((ns.map V.int).length : Nat) : Int)).toNat else min (-1 : Int).toNat (ns.map V.int).length) = _
    rw [if_pos (by decide)]; omega
  rw [e, ← List.dropLast_eq_take, List.map_dropLast]
def spBad (K : PySem.W.Frag) : Sp := fun vs H Q _ => ∃ (a r : Addr) (ns row : List Int) (s : Nat), vs = [.ref a, .ref r] ∧ SqL K H a (ns.map V.int) ∧ H r = some (.lst (row.map V.int)) ∧ 1 ≤ s ∧ s ≤ 9 ∧ RowOf s row ∧
  ∀ (l : Addr) (row' : List Int) (H' : Hp), row'.length ≤ 100 → ¬ IsRow row' → H' l = some (.lst (row'.map V.int)) → Same H H' → Q (.ref l) H'
seal PE PA PT PW PS PSs PG PGs PI PC PIfs PSet OpR UnR CallR IxR SlR PO PJ
section
variable {P : Program} {w : World} {K : PySem.W.Frag} {mg : Str → Option Value} {base : Heap}
theorem mod4 (z : Int) (b0 b1 b2 b3 : Int) : ∃ v, v ∈ [b0, b1, b2, b3] ∧ atI ([b0, b1, b2, b3].map V.int) (z % 4) = some (V.int v) := by
  have h0 := Int.emod_nonneg z (b := 4) (by decide)
  have h1 := Int.emod_lt_of_pos z (b := 4) (by decide)
  generalize z % 4 = r at h0 h1
  have : r = 0 ∨ r = 1 ∨ r = 2 ∨ r = 3 := by omega
  rcases this with rfl | rfl | rfl | rfl
  · exact ⟨b0, by simp, rfl⟩
  · exact ⟨b1, by simp, rfl⟩
  · exact ⟨b2, by simp, rfl⟩
  · exact ⟨b3, by simp, rfl⟩
theorem sc_bad : FnScope ["script", "row", "at", "way", "found"] ["script", "row"] (defScope s__law_bad_row) := ⟨rfl, rfl, rfl, by decide +kernel, rfl, by decide +kernel, by decide +kernel⟩
theorem ok_bad (D : Def K mg "_law_bad_row" s__law_bad_row ["script", "row"]) (B : Bn mg) (C1 : Cal P w K mg base 1 "_law_cell_at" ["script", "k"] (spCell K)) : Cal P w K mg base 2 "_law_bad_row" ["script", "row"] (spBad K) := by
  refine D.ok sc_bad (fun vs H Q E h => ?_) (fun f cdv A outer sh H vs Q E hr h => ?_)
  · obtain ⟨a, r, ns, row, s, rfl, _⟩ := h
    rfl
  · obtain ⟨a, r, ns, row, s, rfl, hSc, hr0, s1, s9, hrow, q⟩ := h
    have hlr := hrow.1
    have four : 4 ≤ sizeLine := by rw [sizeLine_eq]; decide
    refine ⟨_, pss_cons (ps_set (i := 2) sc_bad.nd rfl (Or.inl rfl) (pe_op op_mod (pe_fn C1 hr (pa_cons (pv 0) (pa_cons pe_int pa_nil))) (pe_callB call_len_seq (by rfl) B.len PySem.boot_len (pa_cons (pv 1) pa_nil))))
      (pss_cons (ps_set (i := 3) sc_bad.nd rfl (Or.inl rfl) (pe_op op_mod (pe_fn C1 hr (pa_cons (pv 0) (pa_cons pe_int pa_nil))) pe_int))
      (pss_cons (ps_if (pt_cmpR op_eq (pv 3) pe_int (nomark _)) (pss_one (ps_ret (pe_slice sl_list (pv 1) po_none (po_some (pe_un un_neg pe_int))))) pss_nil)
      (pss_cons (ps_if (pt_cmpR op_eq (pv 3) pe_int (nomark _)) (pss_one (ps_ret (pe_op op_cat (pv 1) (pe_lst (pa_cons (pe_op op_add pe_int (pe_op op_mod (pe_fn C1 hr (pa_cons (pv 0) (pa_cons pe_int pa_nil))) pe_int)) pa_nil))))) pss_nil)
      (pss_cons (ps_set (i := 4) sc_bad.nd rfl (Or.inl rfl) (pe_callTy call_list_of (by rfl) B.list PyProof.Rows.boot_list (pa_cons (pv 1) pa_nil)))
      (pss_cons (ps_asg (pe_ix ix_list (pe_lst (pa_cons pe_int (pa_cons (pe_op op_add (pe_ix ix_list (pv 1) (pv 2) (fun _ _ => rfl)) pe_int) (pa_cons (pe_op op_sub pe_int (pe_ix ix_list (pv 1) (pv 2) (fun _ _ => rfl))) (pa_cons (pe_op op_pow pe_int pe_int) pa_nil))))) (pe_op op_mod (pe_fn C1 hr (pa_cons (pv 0) (pa_cons pe_int pa_nil))) pe_int) (fun _ _ => rfl)) (pg_sub (pv 4) (pv 2) set_list))
      (pss_one (ps_ret (pv 4)))))))), ?_⟩
    have el : (((row.map V.int).length : Nat) : Int) = 2 * s := by rw [List.length_map, hlr]; omega
    have hpos : (0 : Int) < (((row.map V.int).length : Nat) : Int) := by rw [el]; omega
    refine ⟨_, rfl, a, ns, 5, rfl, hSc, _, rfl, r, _, rfl, .inl (SqL.of hr0), _, _, rfl, rfl, hpos, ?_⟩
    obtain ⟨at_, eat⟩ : ∃ at_ : Nat, ns.getD 5 0 % (((row.map V.int).length : Nat) : Int) = (at_ : Int) := ⟨(ns.getD 5 0 % (((row.map V.int).length : Nat) : Int)).toNat, by have := Int.emod_nonneg (ns.getD 5 0) (b := (((row.map V.int).length : Nat) : Int)) (by omega); omega⟩
    have hat : at_ < row.length := by
      have := Int.emod_lt_of_pos (ns.getD 5 0) hpos
      rw [eat, List.length_map] at this; omega
    rw [show (fun (i j : Int) => V.int (i % j)) (ns.getD 5 0) (((row.map V.int).length : Nat) : Int) = V.int (at_ : Int) from congrArg V.int eat]
    refine ⟨_, rfl, a, ns, 6, rfl, hSc, _, _, rfl, rfl, (by show (0 : Int) < 4; decide), ?_⟩
    refine ⟨_, rfl, rfl, _, rfl, ?_⟩
    refine ite2 (fun _ => ?_) (fun _ => ?_)
    · refine ⟨_, rfl, 1, rfl, _, rfl, r, _, rfl, SqL.of hr0, fun p hp => ?_⟩
      have ec : cutV (row.map V.int) none (some (-1 : Int)) = row.dropLast.map V.int := cut_last row
      refine q p row.dropLast _ (by rw [List.length_dropLast]; omega) (not_row_odd (by rw [List.length_dropLast]; omega)) (by rw [upd_same]; exact congrArg (fun z => some (HO.lst z)) ec) (same_upd (Same.refl _) hp)
    · refine ⟨_, rfl, rfl, _, rfl, ?_⟩
      refine ite2 (fun _ => ?_) (fun _ => ?_)
      · refine ⟨_, rfl, _, rfl, a, ns, 5, rfl, hSc, _, _, rfl, rfl, (by show (0 : Int) < 9; decide), _, _, rfl, rfl, by show 1 ≤ sizeLine; omega, fun l1 hl1 => ?_⟩
        have u1 := same_upd (o := .lst [V.int (1 + ns.getD 5 0 % 9)]) (Same.refl _) hl1
        refine ⟨r, l1, _, _, rfl, rfl, u1 _ _ hr0, upd_same, by rw [List.length_map]; show row.length + 1 ≤ sizeLine; exact Nat.le_of_lt (small1000 (by omega)), fun p hp => ?_⟩
        refine q p (row ++ [1 + ns.getD 5 0 % 9]) _ (by rw [List.length_append, List.length_singleton]; omega) (not_row_odd (by rw [List.length_append, List.length_singleton]; omega)) (by rw [upd_same, List.map_append]; rfl) (u1.trans (same_upd (Same.refl _) hp))
      · refine ⟨_, rfl, r, _, rfl, .inl (SqL.of hr0), fun lf hlf => ?_⟩
        have u1 := same_upd (o := .lst (row.map V.int)) (Same.refl _) hlf
        have hr1 := u1 _ _ hr0
        have hf1 := upd_same (H := H) (a := lf) (o := .lst (row.map V.int))
        have sc1 := Same.seq u1 hSc
        have nrf : r ≠ lf := ne_of_none hr0 hlf
        have uH := u1
        generalize upd H lf (.lst (row.map V.int)) = H1 at *
        have hg := List.getElem?_eq_getElem hat
        generalize row[at_] = n at hg
        have hm := hrow.mem n (List.mem_of_getElem? hg)
        refine ⟨_, rfl, _, rfl, r, _, _, _, rfl, rfl, SqL.of hr1, atI_nat (map_at hg), _, _, rfl, rfl, _, rfl, _, rfl, r, _, _, _, rfl, rfl, SqL.of hr1, atI_nat (map_at hg), _, _, rfl, rfl, _, _, rfl, rfl, ⟨by decide, by decide, by decide⟩, four, fun l2 hl2 => ?_⟩
        have u2 := same_upd (o := .lst ([0, n + 1, 0 - n, 10 ^ (29 : Int).toNat].map V.int)) (Same.refl _) hl2
        obtain ⟨v, hv, ev⟩ := mod4 (ns.getD 7 0) 0 (n + 1) (0 - n) (10 ^ (29 : Int).toNat)
        refine ⟨_, rfl, a, ns, 7, rfl, Same.seq u2 sc1, _, _, rfl, rfl, (by show (0 : Int) < 4; decide), l2, _, _, _, rfl, rfl, SqL.of upd_same, ev, ?_⟩
        have hf2 := u2 _ _ hf1
        refine ⟨_, rfl, _, rfl, lf, _, _, at_, rfl, rfl, hf2, ixN_nat (by rw [List.length_map]; exact hat), ?_⟩
        have hne : v ≠ n := by
          have e10 : (10 : Int) ^ (29 : Int).toNat = 100000000000000000000000000000 := by decide
          rw [e10] at hv
          simp only [List.mem_cons, List.not_mem_nil, or_false] at hv
          omega
        refine ⟨_, rfl, q lf (row.set at_ v) _ (by rw [List.length_set]; omega) (not_row_set hrow hg hne) (by rw [upd_same, List.map_set]) ?_⟩
        exact same_upd (uH.trans u2) hlf
end
end Law
namespace Law
open PySem L2 SA
seal PE PA PT PW PS PSs PG PGs PI PC PIfs PSet OpR UnR CallR IxR SlR PO
def forBody : List Stmt → List Stmt
  | .For _ _ b _ _ :: _ => b
  | _ => []
section
variable {P : Program} {w : World} {K : PySem.W.Frag} {mg : Str → Option Value} {base : Heap}
abbrev names12 : List Str := ["script", "far", "row", "count", "one", "other", "due", "size", "bad", "which", "wanted"]
theorem sc_law : FnScope names12 ["script"] (defScope s_law) := ⟨rfl, rfl, rfl, by decide +kernel, rfl, by decide +kernel, by decide +kernel⟩
theorem ok_law {f : Addr} {fd : FuncData} (F : Fun K "law" "law" s_law f fd) (B : Bn mg) (C1 : Cal P w K mg base 1 "_law_cell_at" ["script", "k"] (spCell K)) (C2 : Cal P w K mg base 12 "_law_small_row" ["script", "first"] (spSmall K))
    (C3 : Cal P w K mg base 12 "_law_bad_row" ["script", "row"] (spBad K)) (C4 : Cal P w K mg base 12 "_law_tried" ["which", "size", "row", "one", "other"] spTried) (C5 : Cal P w K mg base 12 "row_of" ["size"] spRowOf) : FnOk P w K mg base CX0 13 f fd ["script"] (spLaw K) := by
  refine F.ok sc_law (fun vs H Q E h => ?_) (fun cdv A outer sh H vs Q E hr h => ?_)
  · obtain ⟨a, ns, rfl, _⟩ := h
    rfl
  · obtain ⟨a, ns, rfl, hSc, hlen, q⟩ := h
    have r1 := hr.mono (show 1 ≤ 12 by decide)
    have big : ∀ {n : Nat}, n ≤ 1000 → n ≤ sizeLine := fun h => by rw [sizeLine_eq]; omega
    have main3 : ∀ (far c x y n : Int) (bad : Bool) (l ld : Addr) (row : List Int) (d0 d1 d2 : Str) (H3 : Hp), H3 l = some (.lst (row.map V.int)) → row.length ≤ 100 → H3 ld = some (.lst [V.str d0, V.str d1, V.str d2]) → n.natAbs < 2 ^ 1800 → x.natAbs < 2 ^ 1800 → y.natAbs < 2 ^ 1800 →
        (∀ w, w < 14 → wordOf (outW w n row x y) = want d0 d1 d2 bad n w) →
        tAny (cxOf CX0 P w K mg base names12 "law" (defScope s_law) f cdv A outer sh H E).nox ((defBody s_law).drop 11) { nx := fun _ H' => Q .non H', rt := Q } [some (.ref a), some (.int far), some (.ref l), some (.int c), some (.int x), some (.int y), some (.ref ld), some (.int n), some (.bl bad), none, none] H3 := by
      intro far c x y n bad l ld row d0 d1 d2 H3 hl hlr hd hn hx hy hW
      refine ⟨_, pss_cons (ps_for PassesOwn.never rfl (pi_range1 rfl B.range (pa_cons pe_int pa_nil)) (pg_name (i := 9) sc_law.nd rfl (Or.inl rfl)) pss_any)
        (pss_one (ps_ret (pe_and (pe_cmpR op_eq (pe_fn C4 hr (pa_cons pe_int (pa_cons pe_int (pa_cons (pe_fn C5 hr (pa_cons pe_int pa_nil)) (pa_cons pe_int (pa_cons pe_int pa_nil)))))) pe_str (nomark _))
          (pe_one (pe_cmpR op_eq (pe_fn C4 hr (pa_cons pe_int (pa_cons pe_int (pa_cons (pe_fn C5 hr (pa_cons pe_int pa_nil)) (pa_cons pe_int (pa_cons pe_int pa_nil)))))) pe_str (nomark _)))))), ?_⟩
      refine ⟨14, rfl, by decide, by decide, for_range (lo := 0) (n := 14) (fun i σ H2 => (∃ (v9 v10 : Option V), σ = [some (.ref a), some (.int far), some (.ref l), some (.int c), some (.int x), some (.int y), some (.ref ld), some (.int n), some (.bl bad), v9, v10]) ∧ Same H3 H2) ⟨⟨none, none, rfl⟩, Same.refl _⟩ ?_ ?_⟩
      · rintro i σ H2 hi ⟨⟨v9, v10, rfl⟩, s2⟩
        have e0 : (0 : Int) + (i : Int) = (i : Int) := by omega
        rw [e0]
        refine ⟨_, pss_cons (ps_set (i := 10) sc_law.nd rfl (Or.inl rfl) (pe_ix ix_list (pv 6) (pe_op op_add (pe_callTy call_int1 (by rfl) B.int PyProof.Rows.boot_int (pa_cons (pe_cmpR op_gt (pv 9) pe_int (nomark _)) pa_nil)) (pe_callTy call_int1 (by rfl) B.int PyProof.Rows.boot_int (pa_cons (pe_cmpR op_gt (pv 9) pe_int (nomark _)) pa_nil))) (fun _ _ => rfl)))
          (pss_cons (ps_if (pt_cmpR op_lt (pv 9) pe_int (nomark _)) (pss_one (ps_set (i := 10) sc_law.nd rfl (Or.inl rfl) (pe_ix ix_list (pe_lst (pa_cons pe_str (pa_cons pe_str pa_nil)))
            (pe_callTy call_int1 (by rfl) B.int PyProof.Rows.boot_int (pa_cons (pe_or (pv 8) (pe_or (pe_and (pe_cmpR op_eq (pv 9) pe_int (nomark _)) (pe_one (pe_cmpR op_gt (pv 7) pe_int (nomark _)))) (pe_one (pe_and (pe_cmpR op_eq (pv 9) pe_int (nomark _)) (pe_one (pe_cmpR op_gt (pv 7) pe_int (nomark _))))))) pa_nil)) (fun _ _ => rfl)))) pss_nil) pss_any), ?_⟩
        refine ⟨_, rfl, _, rfl, _, _, rfl, rfl, .inr ⟨_, rfl, _, rfl, _, _, rfl, rfl, .inr ⟨_, rfl, _, _, rfl, rfl, ld, _, _, _, rfl, rfl, SqL.of (s2 _ _ hd), wantD_at d0 d1 d2 i, ?_⟩⟩⟩
        have tail : ∀ (u : Str) (H4 : Hp) (Dd : Ends), Same H3 H4 → (if wantC bad n i = true then ("such" : Str) else u) = want d0 d1 d2 bad n i →
            (∀ (v9 v10 : Option V) (H5 : Hp), Same H3 H5 → Dd.nx [some (.ref a), some (.int far), some (.ref l), some (.int c), some (.int x), some (.int y), some (.ref ld), some (.int n), some (.bl bad), v9, v10] H5) →
            tAny (cxOf CX0 P w K mg base names12 "law" (defScope s_law) f cdv A outer sh H E).nox ((forBody ((defBody s_law).drop 11)).drop 2) Dd [some (.ref a), some (.int far), some (.ref l), some (.int c), some (.int x), some (.int y), some (.ref ld), some (.int n), some (.bl bad), some (.int (i : Int)), some (.str u)] H4 := by
          intro u H4 Dd s4 hu hnx
          have last : ∀ (u : Str) (Dd : Ends), u = want d0 d1 d2 bad n i →
              (∀ (v9 v10 : Option V) (H5 : Hp), Same H3 H5 → Dd.nx [some (.ref a), some (.int far), some (.ref l), some (.int c), some (.int x), some (.int y), some (.ref ld), some (.int n), some (.bl bad), v9, v10] H5) →
              tAny (cxOf CX0 P w K mg base names12 "law" (defScope s_law) f cdv A outer sh H E).nox ((forBody ((defBody s_law).drop 11)).drop 3) Dd [some (.ref a), some (.int far), some (.ref l), some (.int c), some (.int x), some (.int y), some (.ref ld), some (.int n), some (.bl bad), some (.int (i : Int)), some (.str u)] H4 := by
            intro u Dd hu hnx
            refine ⟨_, pss_one (ps_if (pt_cmpR op_ne (pe_fn C4 hr (pa_cons (pv 9) (pa_cons (pv 7) (pa_cons (pe_callTy call_list_of (by rfl) B.list PyProof.Rows.boot_list (pa_cons (pv 2) pa_nil)) (pa_cons (pv 4) (pa_cons (pv 5) pa_nil)))))) (pv 10) (nomark _)) (pss_one (ps_ret pe_bl)) pss_nil), ?_⟩
            refine ⟨_, rfl, _, rfl, _, rfl, l, _, rfl, .inl (SqL.of (s4 _ _ hl)), fun lc hlc => ?_⟩
            refine ⟨_, rfl, _, rfl, i, n, lc, row, x, y, rfl, hi, hn, hx, hy, upd_same, by omega, fun H5 s5 => ⟨_, rfl, rfl, _, rfl, ?_⟩⟩
            rw [hW i hi, hu, decide_eq_true rfl]
            exact iteF (hnx _ _ H5 (s4.trans ((same_upd (Same.refl _) hlc).trans s5)))
          refine ⟨_, pss_cons (ps_if (PW.pt (pw_and (pt_cmpR op_eq (pv 9) pe_int (nomark _)) (pw_and (pt_not (pt_val (pv 8))) (pw_and1 (pt_cmpR op_gt (pe_op op_mod (pv 7) pe_int) pe_int (nomark _)))))) (pss_one (ps_set (i := 10) sc_law.nd rfl (Or.inl rfl) pe_str)) pss_nil) pss_any, ?_⟩
          refine tAndT_of (b := decide ((i : Int) = 2)) (c := !bad && decide (1 < n % 4)) (fun R r => ⟨_, rfl, rfl, _, rfl, by rw [dec_int]; exact r⟩) (fun R r => tAndT_of (b := !bad) (c := decide (1 < n % 4)) (fun R r => ⟨_, rfl, _, rfl, r⟩) (fun R r => ⟨_, rfl, _, _, rfl, rfl, (by show (0 : Int) < 4; decide), _, _, rfl, rfl, _, rfl, r⟩) r) ?_
          refine ite2 (fun hc => ?_) (fun hc => ?_)
          · rw [show wantC bad n i = true from hc, if_pos rfl] at hu
            exact last _ _ hu hnx
          · rw [if_neg (show ¬ wantC bad n i = true from hc)] at hu
            exact last _ _ hu hnx
        refine ⟨_, rfl, _, _, rfl, rfl, _, rfl, ?_⟩
        refine ite2 (fun h5 => ?_) (fun h5 => ?_)
        · have h5 : (i : Int) < 5 := of_decide_eq_true h5
          refine ⟨big (by decide), fun l5 hl5 => ?_⟩
          refine tOr_of (b := bad) (c := (decide ((i : Int) = 3) && decide (8 < n)) || (decide ((i : Int) = 4) && decide (5 < n))) (fun R r => ⟨_, rfl, r⟩)
            (fun R r => tOr_of (b := decide ((i : Int) = 3) && decide (8 < n)) (c := decide ((i : Int) = 4) && decide (5 < n))
              (fun R r => tAnd_of (b := decide ((i : Int) = 3)) (c := decide (8 < n)) (fun R r => ⟨_, rfl, rfl, by rw [dec_int]; exact r⟩) (fun R r => ⟨_, rfl, _, _, rfl, rfl, r⟩) r)
              (fun R r => tAnd_of (b := decide ((i : Int) = 4)) (c := decide (5 < n)) (fun R r => ⟨_, rfl, rfl, by rw [dec_int]; exact r⟩) (fun R r => ⟨_, rfl, _, _, rfl, rfl, r⟩) r) r) ?_
          refine .inr ⟨_, rfl, l5, _, _, _, rfl, rfl, SqL.of upd_same, wantS_at (wantS bad n i), ?_⟩
          refine tail _ _ _ (s2.trans (same_upd (Same.refl _) hl5)) ?_ (fun v9 v10 H5 s5 => ⟨⟨v9, v10, rfl⟩, s5⟩)
          unfold want
          by_cases hc : wantC bad n i = true
          · rw [if_pos hc, if_pos hc]
          · rw [if_neg hc, if_neg hc, if_pos (show i < 5 by omega)]
        · have h5 : ¬ (i : Int) < 5 := fun z => h5 (decide_eq_true z)
          refine tail _ _ _ s2 ?_ (fun v9 v10 H5 s5 => ⟨⟨v9, v10, rfl⟩, s5⟩)
          unfold want
          by_cases hc : wantC bad n i = true
          · rw [if_pos hc, if_pos hc]
          · rw [if_neg hc, if_neg hc, if_neg (show ¬ i < 5 by omega)]
      · rintro σ H2 ⟨⟨v9, v10, rfl⟩, s2⟩
        refine ⟨12, rfl, by decide, by decide, by decide, fun l6 H6 hl60 hl6 s6 => ?_⟩
        have e12 : wordOf (outW 9 1 (rowOf 12) 0 1) = "size" := by
          have c12 : isRowC (rowOf 12) = true := (isRowC_iff _).mpr ⟨12, by decide, by decide, row12⟩
          show wordOf (outG (rowOf 12)) = _
          unfold outG
          rw [if_pos c12, if_neg (by rw [row12.1]; decide)]; rfl
        have e9 : wordOf (outW 9 1 (rowOf 9) 0 1) = "done" := by
          have c9 : isRowC (rowOf 9) = true := (isRowC_iff _).mpr ⟨9, by decide, by decide, row9⟩
          show wordOf (outG (rowOf 9)) = _
          unfold outG
          rw [if_pos c9, if_pos (by rw [row9.1]; decide)]; rfl
        refine ⟨9, 1, l6, rowOf 12, 0, 1, rfl, by decide, small30 (by decide), small30 (by decide), small30 (by decide), hl6, by rw [row12.1]; decide, fun H7 s7 => ⟨rfl, ?_⟩⟩
        rw [e12, decide_eq_true rfl]
        refine ⟨_, rfl, iteT ⟨9, rfl, by decide, by decide, by decide, fun l8 H8 hl80 hl8 s8 => ?_⟩⟩
        refine ⟨9, 1, l8, rowOf 9, 0, 1, rfl, by decide, small30 (by decide), small30 (by decide), small30 (by decide), hl8, by rw [row9.1]; decide, fun H9 s9 => ⟨rfl, ?_⟩⟩
        rw [e9, decide_eq_true rfl]
        exact q H9
    have main2 : ∀ (far c x y : Int) (l ld : Addr) (row : List Int) (d0 d1 d2 : Str) (H3 : Hp), 0 ≤ far → far < 10 ^ 29 → SqL K H3 a (ns.map V.int) → H3 l = some (.lst (row.map V.int)) → row.length ≤ 100 → H3 ld = some (.lst [V.str d0, V.str d1, V.str d2]) → x.natAbs < 2 ^ 1800 → y.natAbs < 2 ^ 1800 → Asked row x y d0 d1 d2 →
        tAny (cxOf CX0 P w K mg base names12 "law" (defScope s_law) f cdv A outer sh H E).nox ((defBody s_law).drop 8) { nx := fun _ H' => Q .non H', rt := Q } [some (.ref a), some (.int far), some (.ref l), some (.int c), some (.int x), some (.int y), some (.ref ld), none, none, none, none] H3 := by
      intro far c x y l ld row d0 d1 d2 H3 f0 f1 hS3 hl hlr hd hx hy hA
      refine ⟨_, pss_cons (ps_set (i := 7) sc_law.nd rfl (Or.inl rfl) (pe_op op_add pe_int (pe_op op_mod (pe_fn C1 r1 (pa_cons (pv 0) (pa_cons pe_int pa_nil))) pe_int)))
        (pss_cons (ps_set (i := 8) sc_law.nd rfl (Or.inl rfl) (pe_cmpR op_eq (pe_op op_mod (pe_fn C1 r1 (pa_cons (pv 0) (pa_cons pe_int pa_nil))) pe_int) pe_int (nomark _)))
        (pss_cons (ps_if (pt_val (pv 8)) (pss_one (ps_set (i := 7) sc_law.nd rfl (Or.inl rfl) (pe_ix ix_list (pe_lst (pa_cons pe_int (pa_cons pe_int (pa_cons (pe_op op_sub pe_int (pv 1)) (pa_cons (pe_op op_add pe_int (pv 1)) pa_nil)))))
          (pe_op op_mod (pe_op op_fdiv (pe_fn C1 r1 (pa_cons (pv 0) (pa_cons pe_int pa_nil))) pe_int) pe_int) (fun _ _ => rfl)))) pss_nil) pss_any)), ?_⟩
      have m1 := Int.emod_nonneg (ns.getD 13 0) (b := 12) (by decide)
      have m2 := Int.emod_lt_of_pos (ns.getD 13 0) (b := 12) (by decide)
      have f30 : (10 : Int) ^ 29 = 100000000000000000000000000000 := by decide
      have f31 : (10 : Nat) ^ 30 = 1000000000000000000000000000000 := by decide
      rw [f30] at f1
      refine ⟨_, rfl, a, ns, 13, rfl, hS3, _, _, rfl, rfl, (by show (0 : Int) < 12; decide), _, _, rfl, rfl, ?_⟩
      refine ⟨_, rfl, a, ns, 14, rfl, hS3, _, _, rfl, rfl, (by show (0 : Int) < 3; decide), rfl, ?_⟩
      refine ⟨_, rfl, _, rfl, ?_⟩
      refine ite2 (fun hb => ?_) (fun hb => ?_)
      · refine ⟨_, rfl, _, _, rfl, rfl, _, rfl, _, _, rfl, rfl, big (show 4 ≤ 1000 by decide), fun l5 hl5 => ?_⟩
        have u5 := same_upd (o := .lst ([0, 401, 0 - far, 401 + far].map V.int)) (Same.refl _) hl5
        obtain ⟨v, hv, ev⟩ := mod4 (ns.getD 14 0 / 3) 0 401 (0 - far) (401 + far)
        refine ⟨_, rfl, a, ns, 14, rfl, Same.seq u5 hS3, _, _, rfl, rfl, ⟨by decide, by decide⟩, _, _, rfl, rfl, (by show (0 : Int) < 4; decide), l5, _, _, _, rfl, rfl, SqL.of upd_same, ev, ?_⟩
        simp only [List.mem_cons, List.not_mem_nil, or_false] at hv
        rw [hb]
        refine main3 far c x y v true l ld row d0 d1 d2 _ (u5 _ _ hl) hlr (u5 _ _ hd) (small30 (by rw [f31]; omega)) hx hy (want_ok (.inr ⟨rfl, by omega⟩) hA)
      · have hb : decide (V.int (ns.getD 14 0 % 3) = V.int 1) = false := by
          cases e : decide (V.int (ns.getD 14 0 % 3) = V.int 1) with
          | false => rfl
          | true => exact absurd e hb
        rw [hb]
        refine main3 far c x y (1 + ns.getD 13 0 % 12) false l ld row d0 d1 d2 _ hl hlr hd (small30 (by rw [f31]; omega)) hx hy (want_ok (.inl ⟨rfl, by omega, by omega⟩) hA)
    have main1 : ∀ (far x y : Int) (l ld : Addr) (s : Nat) (row : List Int) (d1 d2 : Str) (H3 : Hp), 0 ≤ far → far < 10 ^ 29 → SqL K H3 a (ns.map V.int) → H3 l = some (.lst (row.map V.int)) → 1 ≤ s → s ≤ 9 → RowOf s row → H3 ld = some (.lst [V.str "done", V.str d1, V.str d2]) → x.natAbs < 2 ^ 1800 → y.natAbs < 2 ^ 1800 → Asked row x y "done" d1 d2 →
        ∀ c : Int, tAny (cxOf CX0 P w K mg base names12 "law" (defScope s_law) f cdv A outer sh H E).nox ((defBody s_law).drop 7) { nx := fun _ H' => Q .non H', rt := Q } [some (.ref a), some (.int far), some (.ref l), some (.int c), some (.int x), some (.int y), some (.ref ld), none, none, none, none] H3 := by
      intro far x y l ld s row d1 d2 H3 f0 f1 hS3 hl s1 s9 hrow hd hx hy hA c
      have hlr := hrow.1
      refine ⟨_, pss_cons (ps_if (pt_cmpR op_eq (pe_op op_mod (pe_fn C1 r1 (pa_cons (pv 0) (pa_cons pe_int pa_nil))) pe_int) pe_int (nomark _))
        (pss_cons (ps_set (i := 2) sc_law.nd rfl (Or.inl rfl) (pe_fn C3 hr (pa_cons (pv 0) (pa_cons (pv 2) pa_nil)))) (pss_one (ps_set (i := 6) sc_law.nd rfl (Or.inl rfl) (pe_lst (pa_cons pe_str (pa_cons pe_str (pa_cons pe_str pa_nil))))))) pss_nil) pss_any, ?_⟩
      refine ⟨_, rfl, a, ns, 12, rfl, hS3, _, _, rfl, rfl, (by show (0 : Int) < 3; decide), rfl, _, rfl, ?_⟩
      refine ite2 (fun _ => ?_) (fun _ => main2 far c x y l ld row "done" d1 d2 H3 f0 f1 hS3 hl (by omega) hd hx hy hA)
      refine ⟨_, rfl, _, rfl, a, l, ns, row, s, rfl, hS3, hl, s1, s9, hrow, fun l4 row' H4 hl4 hno h4 s4 => ?_⟩
      refine ⟨big (by decide), fun l5 hl5 => ?_⟩
      have u5 := same_upd (o := .lst [V.str "row", V.str "row", V.str "row"]) (Same.refl _) hl5
      exact main2 far c x y l4 l5 row' "row" "row" "row" _ f0 f1 (Same.seq u5 (Same.seq s4 hS3)) (u5 _ _ h4) hl4 upd_same hx hy (asked_none hno)
    refine ⟨_, pss_cons (ps_set (i := 1) sc_law.nd rfl (Or.inl rfl) (pe_op op_mod (pe_fn C1 r1 (pa_cons (pv 0) (pa_cons pe_int pa_nil))) (pe_op op_pow pe_int pe_int)))
      (pss_cons (ps_set (i := 2) sc_law.nd rfl (Or.inl rfl) (pe_fn C2 hr (pa_cons (pv 0) (pa_cons pe_int pa_nil))))
      (pss_cons (ps_set (i := 3) sc_law.nd rfl (Or.inl rfl) (pe_op op_add (pe_op op_mul pe_int (pe_callB call_len_seq (by rfl) B.len PySem.boot_len (pa_cons (pv 2) pa_nil))) pe_int))
      (pss_cons (ps_set (i := 4) sc_law.nd rfl (Or.inl rfl) (pe_op op_mod (pe_fn C1 r1 (pa_cons (pv 0) (pa_cons pe_int pa_nil))) (pv 3)))
      (pss_cons (ps_set (i := 5) sc_law.nd rfl (Or.inl rfl) (pe_op op_mod (pe_op op_add (pe_op op_add (pv 4) pe_int) (pe_op op_mod (pe_fn C1 r1 (pa_cons (pv 0) (pa_cons pe_int pa_nil))) (pe_op op_sub (pv 3) pe_int))) (pv 3)))
      (pss_cons (ps_set (i := 6) sc_law.nd rfl (Or.inl rfl) (pe_lst (pa_cons pe_str (pa_cons pe_str (pa_cons pe_str pa_nil)))))
      (pss_cons (ps_if (pt_cmpR op_eq (pe_op op_mod (pe_fn C1 r1 (pa_cons (pv 0) (pa_cons pe_int pa_nil))) pe_int) pe_int (nomark _))
        (pss_cons (ps_set (i := 5) sc_law.nd rfl (Or.inl rfl) (pe_ix ix_list (pe_lst (pa_cons (pe_un un_neg pe_int) (pa_cons (pv 3) (pa_cons (pe_op op_sub (pe_un un_neg pe_int) (pv 1)) (pa_cons (pe_op op_add (pv 3) (pv 1)) pa_nil)))))
          (pe_op op_mod (pe_op op_fdiv (pe_fn C1 r1 (pa_cons (pv 0) (pa_cons pe_int pa_nil))) pe_int) pe_int) (fun _ _ => rfl)))
          (pss_one (ps_set (i := 6) sc_law.nd rfl (Or.inl rfl) (pe_lst (pa_cons pe_str (pa_cons pe_str (pa_cons pe_str pa_nil)))))))
        (pss_one (ps_if (pt_cmpR op_eq (pe_op op_mod (pe_fn C1 r1 (pa_cons (pv 0) (pa_cons pe_int pa_nil))) pe_int) pe_int (nomark _))
          (pss_cons (ps_set (i := 5) sc_law.nd rfl (Or.inl rfl) (pv 4)) (pss_one (ps_set (i := 6) sc_law.nd rfl (Or.inl rfl) (pe_lst (pa_cons pe_str (pa_cons pe_str (pa_cons pe_str pa_nil))))))) pss_nil))) pss_any)))))), ?_⟩
    refine ⟨_, rfl, a, ns, 8, rfl, hSc, _, _, rfl, rfl, ⟨by decide, by decide, by decide⟩, _, _, rfl, rfl, (by show (0 : Int) < 10 ^ 29; decide), ?_⟩
    have f0 : 0 ≤ ns.getD 8 0 % 10 ^ (29 : Int).toNat := Int.emod_nonneg _ (by decide)
    have f1 : ns.getD 8 0 % 10 ^ (29 : Int).toNat < 10 ^ 29 := Int.emod_lt_of_pos _ (by decide)
    obtain ⟨far, ef0⟩ : ∃ far : Int, ns.getD 8 0 % 10 ^ (29 : Int).toNat = far := ⟨_, rfl⟩
    rw [show (fun (i j : Int) => V.int (i % j)) (ns.getD 8 0) (10 ^ (29 : Int).toNat) = V.int far from congrArg V.int ef0]
    rw [ef0] at f0 f1
    refine ⟨_, rfl, a, ns, 0, rfl, hSc, fun l s row H1 hs hrow s1 hl0 hl => ?_⟩
    have hlr := hrow.1
    have h9 : 1 ≤ s ∧ s ≤ 9 := by
      simp only [List.mem_cons, List.not_mem_nil, or_false] at hs; omega
    have hS1 := s1.seq hSc
    refine ⟨_, rfl, l, _, rfl, .inl (SqL.of hl), _, _, rfl, rfl, .inl ⟨by decide, by decide⟩, _, _, rfl, rfl, ?_⟩
    have el : 3 * (((row.map V.int).length : Nat) : Int) + 1 = 6 * (s : Int) + 1 := by rw [List.length_map, hlr]; omega
    obtain ⟨c, ec0⟩ : ∃ c : Int, 3 * (((row.map V.int).length : Nat) : Int) + 1 = c := ⟨_, rfl⟩
    rw [show (fun (i j : Int) => V.int (i + j)) (3 * (((row.map V.int).length : Nat) : Int)) 1 = V.int c from congrArg V.int ec0]
    rw [ec0] at el
    have hcp : 0 < c := by omega
    refine ⟨_, rfl, a, ns, 9, rfl, hS1, _, rfl, _, _, rfl, rfl, hcp, ?_⟩
    have x0 := Int.emod_nonneg (ns.getD 9 0) (b := c) (by omega)
    have x1 := Int.emod_lt_of_pos (ns.getD 9 0) hcp
    obtain ⟨x, ex0⟩ : ∃ x : Int, ns.getD 9 0 % c = x := ⟨_, rfl⟩
    rw [show (fun (i j : Int) => V.int (i % j)) (ns.getD 9 0) c = V.int x from congrArg V.int ex0]
    rw [ex0] at x0 x1
    refine ⟨_, rfl, _, _, rfl, rfl, _, rfl, a, ns, 10, rfl, hS1, _, rfl, _, _, rfl, rfl, _, _, rfl, rfl, (by show 0 < c - 1; omega), _, _, rfl, rfl, _, rfl, _, _, rfl, rfl, hcp, ?_⟩
    have z0 := Int.emod_nonneg (ns.getD 10 0) (b := c - 1) (by omega)
    have z1 := Int.emod_lt_of_pos (ns.getD 10 0) (show 0 < c - 1 by omega)
    obtain ⟨z, ez0⟩ : ∃ z : Int, ns.getD 10 0 % (c - 1) = z := ⟨_, rfl⟩
    rw [ez0] at z0 z1
    have y0 := Int.emod_nonneg (x + 1 + z) (b := c) (by omega)
    have y1 := Int.emod_lt_of_pos (x + 1 + z) hcp
    have hne : x ≠ (x + 1 + z) % c := by
      by_cases g : x + 1 + z < c
      · rw [Int.emod_eq_of_lt (by omega) g]; omega
      · rw [← Int.sub_emod_right, Int.emod_eq_of_lt (by omega) (by omega)]; omega
    obtain ⟨y, ey0⟩ : ∃ y : Int, (x + 1 + z) % c = y := ⟨_, rfl⟩
    rw [show (fun (i j : Int) => V.int (i % j)) (x + 1 + ns.getD 10 0 % (c - 1)) c = V.int y from congrArg V.int (by rw [ez0]; exact ey0)]
    rw [ey0] at y0 y1 hne
    have f30 : (10 : Int) ^ 29 = 100000000000000000000000000000 := by decide
    have f31 : (10 : Nat) ^ 30 = 1000000000000000000000000000000 := by decide
    have g1 := f1
    rw [f30] at g1
    have ec : 3 * (row.length : Int) + 1 = c := by rw [hlr]; omega
    have hxb : x.natAbs < 2 ^ 1800 := small30 (by rw [f31]; omega)
    refine ⟨big (by decide), fun ld hld => ?_⟩
    have u1 := same_upd (o := .lst [V.str "done", V.str "done", V.str "done"]) (Same.refl _) hld
    have hd1 := upd_same (H := H1) (a := ld) (o := .lst [V.str "done", V.str "done", V.str "done"])
    have hl1 := u1 _ _ hl
    have hS2 := Same.seq u1 hS1
    show ∃ v, _ ∧ _
    generalize upd H1 ld (.lst [V.str "done", V.str "done", V.str "done"]) = H2 at *
    refine ⟨_, rfl, a, ns, 11, rfl, hS2, _, _, rfl, rfl, (by show (0 : Int) < 3; decide), rfl, _, rfl, ?_⟩
    refine ite2 (fun _ => ?_) (fun _ => ?_)
    · refine ⟨1, rfl, _, rfl, 1, rfl, _, rfl, _, _, rfl, rfl, _, rfl, _, rfl, _, _, rfl, rfl, big (show 4 ≤ 1000 by decide), fun l5 hl5 => ?_⟩
      have u5 := same_upd (o := .lst ([-1, c, -1 - far, c + far].map V.int)) (Same.refl _) hl5
      obtain ⟨v, hv, ev⟩ := mod4 (ns.getD 11 0 / 3) (-1) c (-1 - far) (c + far)
      refine ⟨_, rfl, a, ns, 11, rfl, Same.seq u5 hS2, _, _, rfl, rfl, ⟨by decide, by decide⟩, _, _, rfl, rfl, (by show (0 : Int) < 4; decide), l5, _, _, _, rfl, rfl, SqL.of upd_same, ev, ?_⟩
      simp only [List.mem_cons, List.not_mem_nil, or_false] at hv
      refine ⟨big (by decide), fun l6 hl6 => ?_⟩
      have u6 := u5.trans (same_upd (o := .lst [V.str "done", V.str "person", V.str "person"]) (Same.refl _) hl6)
      refine main1 far x v l l6 s row "person" "person" _ f0 f1 (Same.seq u6 hS2) (u6 _ _ hl1) h9.1 h9.2 hrow upd_same hxb (small30 (by rw [f31]; omega)) (asked_row h9.1 h9.2 hrow ?_ ?_) c
      · rw [if_neg (fun w => by have := w.2.1; omega)]; rfl
      · rw [if_neg (fun w => by omega)]; rfl
    · refine ⟨_, rfl, a, ns, 11, rfl, hS2, _, _, rfl, rfl, (by show (0 : Int) < 3; decide), rfl, _, rfl, ?_⟩
      refine ite2 (fun _ => ?_) (fun _ => ?_)
      · refine ⟨_, rfl, big (by decide), fun l6 hl6 => ?_⟩
        have u6 := same_upd (o := .lst [V.str "done", V.str "person", V.str "done"]) (Same.refl _) hl6
        refine main1 far x x l l6 s row "person" "done" _ f0 f1 (Same.seq u6 hS2) (u6 _ _ hl1) h9.1 h9.2 hrow upd_same hxb hxb (asked_row h9.1 h9.2 hrow ?_ ?_) c
        · rw [if_neg (fun w => w.2.2 rfl)]; rfl
        · rw [if_pos (by omega)]; rfl
      · refine main1 far x y l ld s row "done" "done" _ f0 f1 hS2 hl1 h9.1 h9.2 hrow hd1 hxb (small30 (by rw [f31]; omega)) (asked_row h9.1 h9.2 hrow ?_ ?_) c
        · rw [if_pos (by omega)]; rfl
        · rw [if_pos (by omega)]; rfl
end
end Law
namespace Law
open PySem L2 SA
theorem binds1 {K : PySem.W.Frag} {x qual : Str} {st : Stmt} {f : Addr} {fd : FuncData} {p0 : Str} (F : Fun K x qual st f fd) (h : ∀ (kV doc pm : Value) (an : Option Addr) (cdv ct u0 : Value), bindArgs (PySem.W.fnOf x qual (defArgs st) (defBody st) (defScope st) .none kV doc pm an cdv ct) ⟨[u0], []⟩ = pure ([p0].zip [u0])) : Binds K fd [p0] [] :=
  F.binds (ps := [p0]) fun kV doc pm an cdv ct us hl => match us, hl with | [u0], _ => h kV doc pm an cdv ct u0
theorem binds2 {K : PySem.W.Frag} {x qual : Str} {st : Stmt} {f : Addr} {fd : FuncData} {p0 p1 : Str} (F : Fun K x qual st f fd) (h : ∀ (kV doc pm : Value) (an : Option Addr) (cdv ct u0 u1 : Value), bindArgs (PySem.W.fnOf x qual (defArgs st) (defBody st) (defScope st) .none kV doc pm an cdv ct) ⟨[u0, u1], []⟩ = pure ([p0, p1].zip [u0, u1])) : Binds K fd [p0, p1] [] :=
  F.binds (ps := [p0, p1]) fun kV doc pm an cdv ct us hl => match us, hl with | [u0, u1], _ => h kV doc pm an cdv ct u0 u1
theorem binds3 {K : PySem.W.Frag} {x qual : Str} {st : Stmt} {f : Addr} {fd : FuncData} {p0 p1 p2 : Str} (F : Fun K x qual st f fd) (h : ∀ (kV doc pm : Value) (an : Option Addr) (cdv ct u0 u1 u2 : Value), bindArgs (PySem.W.fnOf x qual (defArgs st) (defBody st) (defScope st) .none kV doc pm an cdv ct) ⟨[u0, u1, u2], []⟩ = pure ([p0, p1, p2].zip [u0, u1, u2])) : Binds K fd [p0, p1, p2] [] :=
  F.binds (ps := [p0, p1, p2]) fun kV doc pm an cdv ct us hl => match us, hl with | [u0, u1, u2], _ => h kV doc pm an cdv ct u0 u1 u2
theorem binds4 {K : PySem.W.Frag} {x qual : Str} {st : Stmt} {f : Addr} {fd : FuncData} {p0 p1 p2 p3 : Str} (F : Fun K x qual st f fd) (h : ∀ (kV doc pm : Value) (an : Option Addr) (cdv ct u0 u1 u2 u3 : Value), bindArgs (PySem.W.fnOf x qual (defArgs st) (defBody st) (defScope st) .none kV doc pm an cdv ct) ⟨[u0, u1, u2, u3], []⟩ = pure ([p0, p1, p2, p3].zip [u0, u1, u2, u3])) : Binds K fd [p0, p1, p2, p3] [] :=
  F.binds (ps := [p0, p1, p2, p3]) fun kV doc pm an cdv ct us hl => match us, hl with | [u0, u1, u2, u3], _ => h kV doc pm an cdv ct u0 u1 u2 u3
theorem binds5 {K : PySem.W.Frag} {x qual : Str} {st : Stmt} {f : Addr} {fd : FuncData} {p0 p1 p2 p3 p4 : Str} (F : Fun K x qual st f fd) (h : ∀ (kV doc pm : Value) (an : Option Addr) (cdv ct u0 u1 u2 u3 u4 : Value), bindArgs (PySem.W.fnOf x qual (defArgs st) (defBody st) (defScope st) .none kV doc pm an cdv ct) ⟨[u0, u1, u2, u3, u4], []⟩ = pure ([p0, p1, p2, p3, p4].zip [u0, u1, u2, u3, u4])) : Binds K fd [p0, p1, p2, p3, p4] [] :=
  F.binds (ps := [p0, p1, p2, p3, p4]) fun kV doc pm an cdv ct us hl => match us, hl with | [u0, u1, u2, u3, u4], _ => h kV doc pm an cdv ct u0 u1 u2 u3 u4
theorem all_mk {l : PySem.W.OpenLaw} {w : World} {K : PySem.W.Frag} {h : Heap} {mg : Str → Option Value} {fa : Addr} (X : K.In h) (G : h.Ns mainGlobals mg) (hfa : mg "law" = some (.ref fa))
    {f12 : Addr} {od12 an12 : Option Addr} {sl12 : Array (Option Value)} {oc12 kV12 dc12 pm12 cd12 ct12 : Value}
    {f13 : Addr} {od13 an13 : Option Addr} {sl13 : Array (Option Value)} {oc13 kV13 dc13 pm13 cd13 ct13 : Value}
    {f14 : Addr} {od14 an14 : Option Addr} {sl14 : Array (Option Value)} {oc14 kV14 dc14 pm14 cd14 ct14 : Value}
    {f15 : Addr} {od15 an15 : Option Addr} {sl15 : Array (Option Value)} {oc15 kV15 dc15 pm15 cd15 ct15 : Value}
    {f16 : Addr} {od16 an16 : Option Addr} {sl16 : Array (Option Value)} {oc16 kV16 dc16 pm16 cd16 ct16 : Value}
    {f17 : Addr} {od17 an17 : Option Addr} {sl17 : Array (Option Value)} {oc17 kV17 dc17 pm17 cd17 ct17 : Value}
    {f18 : Addr} {od18 an18 : Option Addr} {sl18 : Array (Option Value)} {oc18 kV18 dc18 pm18 cd18 ct18 : Value}
    {f19 : Addr} {od19 an19 : Option Addr} {sl19 : Array (Option Value)} {oc19 kV19 dc19 pm19 cd19 ct19 : Value}
    {f20 : Addr} {od20 an20 : Option Addr} {sl20 : Array (Option Value)} {oc20 kV20 dc20 pm20 cd20 ct20 : Value}
    {f21 : Addr} {od21 an21 : Option Addr} {sl21 : Array (Option Value)} {oc21 kV21 dc21 pm21 cd21 ct21 : Value}
    {f22 : Addr} {od22 an22 : Option Addr} {sl22 : Array (Option Value)} {oc22 kV22 dc22 pm22 cd22 ct22 : Value}
    {f23 : Addr} {od23 an23 : Option Addr} {sl23 : Array (Option Value)} {oc23 kV23 dc23 pm23 cd23 ct23 : Value}
    {f24 : Addr} {od24 an24 : Option Addr} {sl24 : Array (Option Value)} {oc24 kV24 dc24 pm24 cd24 ct24 : Value}
    {f25 : Addr} {od25 an25 : Option Addr} {sl25 : Array (Option Value)} {oc25 kV25 dc25 pm25 cd25 ct25 : Value}
    {f26 : Addr} {od26 an26 : Option Addr} {sl26 : Array (Option Value)} {oc26 kV26 dc26 pm26 cd26 ct26 : Value}
    {f27 : Addr} {od27 an27 : Option Addr} {sl27 : Array (Option Value)} {oc27 kV27 dc27 pm27 cd27 ct27 : Value}
    {f28 : Addr} {od28 an28 : Option Addr} {sl28 : Array (Option Value)} {oc28 kV28 dc28 pm28 cd28 ct28 : Value}
    {f31 : Addr} {od31 an31 : Option Addr} {sl31 : Array (Option Value)} {oc31 kV31 dc31 pm31 cd31 ct31 : Value}
    {f32 : Addr} {od32 an32 : Option Addr} {sl32 : Array (Option Value)} {oc32 kV32 dc32 pm32 cd32 ct32 : Value}
    {f33 : Addr} {od33 an33 : Option Addr} {sl33 : Array (Option Value)} {oc33 kV33 dc33 pm33 cd33 ct33 : Value}
    {f34 : Addr} {od34 an34 : Option Addr} {sl34 : Array (Option Value)} {oc34 kV34 dc34 pm34 cd34 ct34 : Value}
    {f35 : Addr} {od35 an35 : Option Addr} {sl35 : Array (Option Value)} {oc35 kV35 dc35 pm35 cd35 ct35 : Value}
    {f36 : Addr} {od36 an36 : Option Addr} {sl36 : Array (Option Value)} {oc36 kV36 dc36 pm36 cd36 ct36 : Value}
    {f37 : Addr} {od37 an37 : Option Addr} {sl37 : Array (Option Value)} {oc37 kV37 dc37 pm37 cd37 ct37 : Value}
    {f38 : Addr} {od38 an38 : Option Addr} {sl38 : Array (Option Value)} {oc38 kV38 dc38 pm38 cd38 ct38 : Value}
    {f39 : Addr} {od39 an39 : Option Addr} {sl39 : Array (Option Value)} {oc39 kV39 dc39 pm39 cd39 ct39 : Value}
    {f40 : Addr} {od40 an40 : Option Addr} {sl40 : Array (Option Value)} {oc40 kV40 dc40 pm40 cd40 ct40 : Value}
    {f41 : Addr} {od41 an41 : Option Addr} {sl41 : Array (Option Value)} {oc41 kV41 dc41 pm41 cd41 ct41 : Value}
    {f42 : Addr} {od42 an42 : Option Addr} {sl42 : Array (Option Value)} {oc42 kV42 dc42 pm42 cd42 ct42 : Value}
    {f43 : Addr} {od43 an43 : Option Addr} {sl43 : Array (Option Value)} {oc43 kV43 dc43 pm43 cd43 ct43 : Value}
    {f45 : Addr} {od45 an45 : Option Addr} {sl45 : Array (Option Value)} {oc45 kV45 dc45 pm45 cd45 ct45 : Value}
    {f47 : Addr} {od47 an47 : Option Addr} {sl47 : Array (Option Value)} {oc47 kV47 dc47 pm47 cd47 ct47 : Value}
    {f48 : Addr} {od48 an48 : Option Addr} {sl48 : Array (Option Value)} {oc48 kV48 dc48 pm48 cd48 ct48 : Value}
    {f50 : Addr} {od50 an50 : Option Addr} {sl50 : Array (Option Value)} {oc50 kV50 dc50 pm50 cd50 ct50 : Value}
    {f51 : Addr} {od51 an51 : Option Addr} {sl51 : Array (Option Value)} {oc51 kV51 dc51 pm51 cd51 ct51 : Value}
    {f52 : Addr} {od52 an52 : Option Addr} {sl52 : Array (Option Value)} {oc52 kV52 dc52 pm52 cd52 ct52 : Value}
    {f53 : Addr} {od53 an53 : Option Addr} {sl53 : Array (Option Value)} {oc53 kV53 dc53 pm53 cd53 ct53 : Value}
    {f54 : Addr} {od54 an54 : Option Addr} {sl54 : Array (Option Value)} {oc54 kV54 dc54 pm54 cd54 ct54 : Value}
    {f55 : Addr} {od55 an55 : Option Addr} {sl55 : Array (Option Value)} {oc55 kV55 dc55 pm55 cd55 ct55 : Value}
    {f56 : Addr} {od56 an56 : Option Addr} {sl56 : Array (Option Value)} {oc56 kV56 dc56 pm56 cd56 ct56 : Value}
    {f57 : Addr} {od57 an57 : Option Addr} {sl57 : Array (Option Value)} {oc57 kV57 dc57 pm57 cd57 ct57 : Value}
    {tk : Tok}
    {t5 : Addr} {od5 : Option Addr} {n5 : Nat} {sl5 : Array (Option Value)} {u0 u1 u2 u3 u4 u5 u6 u7 u8 u9 : Tok}
    {tk8 : Tok}
    {tk5 : Tok}
    {tk9 : Tok}
    {ec0 ec1 ec2 ec3 ec4 ecA : Addr}
    (a12 : PySem.W.nsIn K mainGlobals "check_size" = some (some (.ref f12))) (l12 : K.lookup f12 = some ⟨oc12, od12, .func (PySem.W.fnOf "check_size" "check_size" (defArgs s_check_size) (defBody s_check_size) (defScope s_check_size) .none kV12 dc12 pm12 an12 cd12 ct12), sl12⟩) (c12 : PySem.W.codeIn K cd12 "check_size" = true) (k12 : PySem.W.keepIn K (.ref f12) = true)
    (a13 : PySem.W.nsIn K mainGlobals "check_row" = some (some (.ref f13))) (l13 : K.lookup f13 = some ⟨oc13, od13, .func (PySem.W.fnOf "check_row" "check_row" (defArgs s_check_row) (defBody s_check_row) (defScope s_check_row) .none kV13 dc13 pm13 an13 cd13 ct13), sl13⟩) (c13 : PySem.W.codeIn K cd13 "check_row" = true) (k13 : PySem.W.keepIn K (.ref f13) = true)
    (a14 : PySem.W.nsIn K mainGlobals "found_places" = some (some (.ref f14))) (l14 : K.lookup f14 = some ⟨oc14, od14, .func (PySem.W.fnOf "found_places" "found_places" (defArgs s_found_places) (defBody s_found_places) (defScope s_found_places) .none kV14 dc14 pm14 an14 cd14 ct14), sl14⟩) (c14 : PySem.W.codeIn K cd14 "found_places" = true) (k14 : PySem.W.keepIn K (.ref f14) = true)
    (a15 : PySem.W.nsIn K mainGlobals "stands_well" = some (some (.ref f15))) (l15 : K.lookup f15 = some ⟨oc15, od15, .func (PySem.W.fnOf "stands_well" "stands_well" (defArgs s_stands_well) (defBody s_stands_well) (defScope s_stands_well) .none kV15 dc15 pm15 an15 cd15 ct15), sl15⟩) (c15 : PySem.W.codeIn K cd15 "stands_well" = true) (k15 : PySem.W.keepIn K (.ref f15) = true)
    (a16 : PySem.W.nsIn K mainGlobals "is_row" = some (some (.ref f16))) (l16 : K.lookup f16 = some ⟨oc16, od16, .func (PySem.W.fnOf "is_row" "is_row" (defArgs s_is_row) (defBody s_is_row) (defScope s_is_row) .none kV16 dc16 pm16 an16 cd16 ct16), sl16⟩) (c16 : PySem.W.codeIn K cd16 "is_row" = true) (k16 : PySem.W.keepIn K (.ref f16) = true)
    (a17 : PySem.W.nsIn K mainGlobals "contrary" = some (some (.ref f17))) (l17 : K.lookup f17 = some ⟨oc17, od17, .func (PySem.W.fnOf "contrary" "contrary" (defArgs s_contrary) (defBody s_contrary) (defScope s_contrary) .none kV17 dc17 pm17 an17 cd17 ct17), sl17⟩) (c17 : PySem.W.codeIn K cd17 "contrary" = true) (k17 : PySem.W.keepIn K (.ref f17) = true)
    (a18 : PySem.W.nsIn K mainGlobals "places" = some (some (.ref f18))) (l18 : K.lookup f18 = some ⟨oc18, od18, .func (PySem.W.fnOf "places" "places" (defArgs s_places) (defBody s_places) (defScope s_places) .none kV18 dc18 pm18 an18 cd18 ct18), sl18⟩) (c18 : PySem.W.codeIn K cd18 "places" = true) (k18 : PySem.W.keepIn K (.ref f18) = true)
    (a19 : PySem.W.nsIn K mainGlobals "can_be" = some (some (.ref f19))) (l19 : K.lookup f19 = some ⟨oc19, od19, .func (PySem.W.fnOf "can_be" "can_be" (defArgs s_can_be) (defBody s_can_be) (defScope s_can_be) .none kV19 dc19 pm19 an19 cd19 ct19), sl19⟩) (c19 : PySem.W.codeIn K cd19 "can_be" = true) (k19 : PySem.W.keepIn K (.ref f19) = true)
    (a20 : PySem.W.nsIn K mainGlobals "reckoned" = some (some (.ref f20))) (l20 : K.lookup f20 = some ⟨oc20, od20, .func (PySem.W.fnOf "reckoned" "reckoned" (defArgs s_reckoned) (defBody s_reckoned) (defScope s_reckoned) .none kV20 dc20 pm20 an20 cd20 ct20), sl20⟩) (c20 : PySem.W.codeIn K cd20 "reckoned" = true) (k20 : PySem.W.keepIn K (.ref f20) = true)
    (a21 : PySem.W.nsIn K mainGlobals "first_place" = some (some (.ref f21))) (l21 : K.lookup f21 = some ⟨oc21, od21, .func (PySem.W.fnOf "first_place" "first_place" (defArgs s_first_place) (defBody s_first_place) (defScope s_first_place) .none kV21 dc21 pm21 an21 cd21 ct21), sl21⟩) (c21 : PySem.W.codeIn K cd21 "first_place" = true) (k21 : PySem.W.keepIn K (.ref f21) = true)
    (a22 : PySem.W.nsIn K mainGlobals "with_number" = some (some (.ref f22))) (l22 : K.lookup f22 = some ⟨oc22, od22, .func (PySem.W.fnOf "with_number" "with_number" (defArgs s_with_number) (defBody s_with_number) (defScope s_with_number) .none kV22 dc22 pm22 an22 cd22 ct22), sl22⟩) (c22 : PySem.W.codeIn K cd22 "with_number" = true) (k22 : PySem.W.keepIn K (.ref f22) = true)
    (a23 : PySem.W.nsIn K mainGlobals "row_of" = some (some (.ref f23))) (l23 : K.lookup f23 = some ⟨oc23, od23, .func (PySem.W.fnOf "row_of" "row_of" (defArgs s_row_of) (defBody s_row_of) (defScope s_row_of) .none kV23 dc23 pm23 an23 cd23 ct23), sl23⟩) (c23 : PySem.W.codeIn K cd23 "row_of" = true) (k23 : PySem.W.keepIn K (.ref f23) = true)
    (a24 : PySem.W.nsIn K mainGlobals "fits" = some (some (.ref f24))) (l24 : K.lookup f24 = some ⟨oc24, od24, .func (PySem.W.fnOf "fits" "fits" (defArgs s_fits) (defBody s_fits) (defScope s_fits) .none kV24 dc24 pm24 an24 cd24 ct24), sl24⟩) (c24 : PySem.W.codeIn K cd24 "fits" = true) (k24 : PySem.W.keepIn K (.ref f24) = true)
    (a25 : PySem.W.nsIn K mainGlobals "carried_on" = some (some (.ref f25))) (l25 : K.lookup f25 = some ⟨oc25, od25, .func (PySem.W.fnOf "carried_on" "carried_on" (defArgs s_carried_on) (defBody s_carried_on) (defScope s_carried_on) .none kV25 dc25 pm25 an25 cd25 ct25), sl25⟩) (c25 : PySem.W.codeIn K cd25 "carried_on" = true) (k25 : PySem.W.keepIn K (.ref f25) = true)
    (a26 : PySem.W.nsIn K mainGlobals "all_rows" = some (some (.ref f26))) (l26 : K.lookup f26 = some ⟨oc26, od26, .func (PySem.W.fnOf "all_rows" "all_rows" (defArgs s_all_rows) (defBody s_all_rows) (defScope s_all_rows) .none kV26 dc26 pm26 an26 cd26 ct26), sl26⟩) (c26 : PySem.W.codeIn K cd26 "all_rows" = true) (k26 : PySem.W.keepIn K (.ref f26) = true)
    (a27 : PySem.W.nsIn K mainGlobals "many" = some (some (.ref f27))) (l27 : K.lookup f27 = some ⟨oc27, od27, .func (PySem.W.fnOf "many" "many" (defArgs s_many) (defBody s_many) (defScope s_many) .none kV27 dc27 pm27 an27 cd27 ct27), sl27⟩) (c27 : PySem.W.codeIn K cd27 "many" = true) (k27 : PySem.W.keepIn K (.ref f27) = true)
    (a28 : PySem.W.nsIn K mainGlobals "rows" = some (some (.ref f28))) (l28 : K.lookup f28 = some ⟨oc28, od28, .func (PySem.W.fnOf "rows" "rows" (defArgs s_rows) (defBody s_rows) (defScope s_rows) .none kV28 dc28 pm28 an28 cd28 ct28), sl28⟩) (c28 : PySem.W.codeIn K cd28 "rows" = true) (k28 : PySem.W.keepIn K (.ref f28) = true)
    (a31 : PySem.W.nsIn K mainGlobals "people" = some (some (.ref f31))) (l31 : K.lookup f31 = some ⟨oc31, od31, .func (PySem.W.fnOf "people" "people" (defArgs s_people) (defBody s_people) (defScope s_people) .none kV31 dc31 pm31 an31 cd31 ct31), sl31⟩) (c31 : PySem.W.codeIn K cd31 "people" = true) (k31 : PySem.W.keepIn K (.ref f31) = true)
    (a32 : PySem.W.nsIn K mainGlobals "is_person" = some (some (.ref f32))) (l32 : K.lookup f32 = some ⟨oc32, od32, .func (PySem.W.fnOf "is_person" "is_person" (defArgs s_is_person) (defBody s_is_person) (defScope s_is_person) .none kV32 dc32 pm32 an32 cd32 ct32), sl32⟩) (c32 : PySem.W.codeIn K cd32 "is_person" = true) (k32 : PySem.W.keepIn K (.ref f32) = true)
    (a33 : PySem.W.nsIn K mainGlobals "are_two_people" = some (some (.ref f33))) (l33 : K.lookup f33 = some ⟨oc33, od33, .func (PySem.W.fnOf "are_two_people" "are_two_people" (defArgs s_are_two_people) (defBody s_are_two_people) (defScope s_are_two_people) .none kV33 dc33 pm33 an33 cd33 ct33), sl33⟩) (c33 : PySem.W.codeIn K cd33 "are_two_people" = true) (k33 : PySem.W.keepIn K (.ref f33) = true)
    (a34 : PySem.W.nsIn K mainGlobals "base_group" = some (some (.ref f34))) (l34 : K.lookup f34 = some ⟨oc34, od34, .func (PySem.W.fnOf "base_group" "base_group" (defArgs s_base_group) (defBody s_base_group) (defScope s_base_group) .none kV34 dc34 pm34 an34 cd34 ct34), sl34⟩) (c34 : PySem.W.codeIn K cd34 "base_group" = true) (k34 : PySem.W.keepIn K (.ref f34) = true)
    (a35 : PySem.W.nsIn K mainGlobals "turned" = some (some (.ref f35))) (l35 : K.lookup f35 = some ⟨oc35, od35, .func (PySem.W.fnOf "turned" "turned" (defArgs s_turned) (defBody s_turned) (defScope s_turned) .none kV35 dc35 pm35 an35 cd35 ct35), sl35⟩) (c35 : PySem.W.codeIn K cd35 "turned" = true) (k35 : PySem.W.keepIn K (.ref f35) = true)
    (a36 : PySem.W.nsIn K mainGlobals "turned_to" = some (some (.ref f36))) (l36 : K.lookup f36 = some ⟨oc36, od36, .func (PySem.W.fnOf "turned_to" "turned_to" (defArgs s_turned_to) (defBody s_turned_to) (defScope s_turned_to) .none kV36 dc36 pm36 an36 cd36 ct36), sl36⟩) (c36 : PySem.W.codeIn K cd36 "turned_to" = true) (k36 : PySem.W.keepIn K (.ref f36) = true)
    (a37 : PySem.W.nsIn K mainGlobals "number_of_step" = some (some (.ref f37))) (l37 : K.lookup f37 = some ⟨oc37, od37, .func (PySem.W.fnOf "number_of_step" "number_of_step" (defArgs s_number_of_step) (defBody s_number_of_step) (defScope s_number_of_step) .none kV37 dc37 pm37 an37 cd37 ct37), sl37⟩) (c37 : PySem.W.codeIn K cd37 "number_of_step" = true) (k37 : PySem.W.keepIn K (.ref f37) = true)
    (a38 : PySem.W.nsIn K mainGlobals "group_of_two" = some (some (.ref f38))) (l38 : K.lookup f38 = some ⟨oc38, od38, .func (PySem.W.fnOf "group_of_two" "group_of_two" (defArgs s_group_of_two) (defBody s_group_of_two) (defScope s_group_of_two) .none kV38 dc38 pm38 an38 cd38 ct38), sl38⟩) (c38 : PySem.W.codeIn K cd38 "group_of_two" = true) (k38 : PySem.W.keepIn K (.ref f38) = true)
    (a39 : PySem.W.nsIn K mainGlobals "group" = some (some (.ref f39))) (l39 : K.lookup f39 = some ⟨oc39, od39, .func (PySem.W.fnOf "group" "group" (defArgs s_group) (defBody s_group) (defScope s_group) .none kV39 dc39 pm39 an39 cd39 ct39), sl39⟩) (c39 : PySem.W.codeIn K cd39 "group" = true) (k39 : PySem.W.keepIn K (.ref f39) = true)
    (a40 : PySem.W.nsIn K mainGlobals "third" = some (some (.ref f40))) (l40 : K.lookup f40 = some ⟨oc40, od40, .func (PySem.W.fnOf "third" "third" (defArgs s_third) (defBody s_third) (defScope s_third) .none kV40 dc40 pm40 an40 cd40 ct40), sl40⟩) (c40 : PySem.W.codeIn K cd40 "third" = true) (k40 : PySem.W.keepIn K (.ref f40) = true)
    (a41 : PySem.W.nsIn K mainGlobals "day" = some (some (.ref f41))) (l41 : K.lookup f41 = some ⟨oc41, od41, .func (PySem.W.fnOf "day" "day" (defArgs s_day) (defBody s_day) (defScope s_day) .none kV41 dc41 pm41 an41 cd41 ct41), sl41⟩) (c41 : PySem.W.codeIn K cd41 "day" = true) (k41 : PySem.W.keepIn K (.ref f41) = true)
    (a42 : PySem.W.nsIn K mainGlobals "is_group" = some (some (.ref f42))) (l42 : K.lookup f42 = some ⟨oc42, od42, .func (PySem.W.fnOf "is_group" "is_group" (defArgs s_is_group) (defBody s_is_group) (defScope s_is_group) .none kV42 dc42 pm42 an42 cd42 ct42), sl42⟩) (c42 : PySem.W.codeIn K cd42 "is_group" = true) (k42 : PySem.W.keepIn K (.ref f42) = true)
    (a43 : PySem.W.nsIn K mainGlobals "groups" = some (some (.ref f43))) (l43 : K.lookup f43 = some ⟨oc43, od43, .func (PySem.W.fnOf "groups" "groups" (defArgs s_groups) (defBody s_groups) (defScope s_groups) .none kV43 dc43 pm43 an43 cd43 ct43), sl43⟩) (c43 : PySem.W.codeIn K cd43 "groups" = true) (k43 : PySem.W.keepIn K (.ref f43) = true)
    (a45 : PySem.W.nsIn K mainGlobals "shown" = some (some (.ref f45))) (l45 : K.lookup f45 = some ⟨oc45, od45, .func (PySem.W.fnOf "shown" "shown" (defArgs s_shown) (defBody s_shown) (defScope s_shown) .none kV45 dc45 pm45 an45 cd45 ct45), sl45⟩) (c45 : PySem.W.codeIn K cd45 "shown" = true) (k45 : PySem.W.keepIn K (.ref f45) = true)
    (a47 : PySem.W.nsIn K mainGlobals "_law_cell_at" = some (some (.ref f47))) (l47 : K.lookup f47 = some ⟨oc47, od47, .func (PySem.W.fnOf "_law_cell_at" "_law_cell_at" (defArgs s__law_cell_at) (defBody s__law_cell_at) (defScope s__law_cell_at) .none kV47 dc47 pm47 an47 cd47 ct47), sl47⟩) (c47 : PySem.W.codeIn K cd47 "_law_cell_at" = true) (k47 : PySem.W.keepIn K (.ref f47) = true)
    (a48 : PySem.W.nsIn K mainGlobals "_law_draw" = some (some (.ref f48))) (l48 : K.lookup f48 = some ⟨oc48, od48, .func (PySem.W.fnOf "_law_draw" "_law_draw" (defArgs s__law_draw) (defBody s__law_draw) (defScope s__law_draw) .none kV48 dc48 pm48 an48 cd48 ct48), sl48⟩) (c48 : PySem.W.codeIn K cd48 "_law_draw" = true) (k48 : PySem.W.keepIn K (.ref f48) = true)
    (a50 : PySem.W.nsIn K mainGlobals "_law_filled" = some (some (.ref f50))) (l50 : K.lookup f50 = some ⟨oc50, od50, .func (PySem.W.fnOf "_law_filled" "_law_filled" (defArgs s__law_filled) (defBody s__law_filled) (defScope s__law_filled) .none kV50 dc50 pm50 an50 cd50 ct50), sl50⟩) (c50 : PySem.W.codeIn K cd50 "_law_filled" = true) (k50 : PySem.W.keepIn K (.ref f50) = true)
    (a51 : PySem.W.nsIn K mainGlobals "_law_small_row" = some (some (.ref f51))) (l51 : K.lookup f51 = some ⟨oc51, od51, .func (PySem.W.fnOf "_law_small_row" "_law_small_row" (defArgs s__law_small_row) (defBody s__law_small_row) (defScope s__law_small_row) .none kV51 dc51 pm51 an51 cd51 ct51), sl51⟩) (c51 : PySem.W.codeIn K cd51 "_law_small_row" = true) (k51 : PySem.W.keepIn K (.ref f51) = true)
    (a52 : PySem.W.nsIn K mainGlobals "_law_word_of" = some (some (.ref f52))) (l52 : K.lookup f52 = some ⟨oc52, od52, .func (PySem.W.fnOf "_law_word_of" "_law_word_of" (defArgs s__law_word_of) (defBody s__law_word_of) (defScope s__law_word_of) .none kV52 dc52 pm52 an52 cd52 ct52), sl52⟩) (c52 : PySem.W.codeIn K cd52 "_law_word_of" = true) (k52 : PySem.W.keepIn K (.ref f52) = true)
    (a53 : PySem.W.nsIn K mainGlobals "_law_first" = some (some (.ref f53))) (l53 : K.lookup f53 = some ⟨oc53, od53, .func (PySem.W.fnOf "_law_first" "_law_first" (defArgs s__law_first) (defBody s__law_first) (defScope s__law_first) .none kV53 dc53 pm53 an53 cd53 ct53), sl53⟩) (c53 : PySem.W.codeIn K cd53 "_law_first" = true) (k53 : PySem.W.keepIn K (.ref f53) = true)
    (a54 : PySem.W.nsIn K mainGlobals "_law_second" = some (some (.ref f54))) (l54 : K.lookup f54 = some ⟨oc54, od54, .func (PySem.W.fnOf "_law_second" "_law_second" (defArgs s__law_second) (defBody s__law_second) (defScope s__law_second) .none kV54 dc54 pm54 an54 cd54 ct54), sl54⟩) (c54 : PySem.W.codeIn K cd54 "_law_second" = true) (k54 : PySem.W.keepIn K (.ref f54) = true)
    (a55 : PySem.W.nsIn K mainGlobals "_law_tried" = some (some (.ref f55))) (l55 : K.lookup f55 = some ⟨oc55, od55, .func (PySem.W.fnOf "_law_tried" "_law_tried" (defArgs s__law_tried) (defBody s__law_tried) (defScope s__law_tried) .none kV55 dc55 pm55 an55 cd55 ct55), sl55⟩) (c55 : PySem.W.codeIn K cd55 "_law_tried" = true) (k55 : PySem.W.keepIn K (.ref f55) = true)
    (a56 : PySem.W.nsIn K mainGlobals "_law_bad_row" = some (some (.ref f56))) (l56 : K.lookup f56 = some ⟨oc56, od56, .func (PySem.W.fnOf "_law_bad_row" "_law_bad_row" (defArgs s__law_bad_row) (defBody s__law_bad_row) (defScope s__law_bad_row) .none kV56 dc56 pm56 an56 cd56 ct56), sl56⟩) (c56 : PySem.W.codeIn K cd56 "_law_bad_row" = true) (k56 : PySem.W.keepIn K (.ref f56) = true)
    (a57 : PySem.W.nsIn K mainGlobals "law" = some (some (.ref f57))) (l57 : K.lookup f57 = some ⟨oc57, od57, .func (PySem.W.fnOf "law" "law" (defArgs s_law) (defBody s_law) (defScope s_law) .none kV57 dc57 pm57 an57 cd57 ct57), sl57⟩) (c57 : PySem.W.codeIn K cd57 "law" = true) (k57 : PySem.W.keepIn K (.ref f57) = true)
    (g1 : PySem.W.nsIn K mainGlobals "GREATEST" = some (some (.int 400 tk)))
    (g2 : PySem.W.nsIn K mainGlobals "ROW_OF_FIVE" = some (some (.ref t5))) (g3 : K.lookup t5 = some ⟨.type "tuple", od5, .seq #[.int 1 u0, .int 1 u1, .int 3 u2, .int 4 u3, .int 5 u4, .int 3 u5, .int 2 u6, .int 4 u7, .int 2 u8, .int 5 u9] n5, sl5⟩)
    (g8 : PySem.W.nsIn K mainGlobals "GREATEST_COUNTED" = some (some (.int 8 tk8)))
    (g5 : PySem.W.nsIn K mainGlobals "GREATEST_TOLD" = some (some (.int 5 tk5)))
    (g9 : PySem.W.nsIn K mainGlobals "GREATEST_GROUPED" = some (some (.int 9 tk9)))
    (zn_sorted : PySem.W.nsIn K mainGlobals "sorted" = some none)
    (zn_sum : PySem.W.nsIn K mainGlobals "sum" = some none)
    (zn_str : PySem.W.nsIn K mainGlobals "str" = some none)
    (en0 : PySem.W.nsIn K mainGlobals "NoSize" = some (some (.ref ec0))) (ei0 : PySem.W.isClsIn K ec0 = true) (et0 : PySem.W.typeIn K (.ref ec0) = some (.type "type")) (en1 : PySem.W.nsIn K mainGlobals "NoSuch" = some (some (.ref ec1))) (ei1 : PySem.W.isClsIn K ec1 = true) (et1 : PySem.W.typeIn K (.ref ec1) = some (.type "type")) (en2 : PySem.W.nsIn K mainGlobals "NoRow" = some (some (.ref ec2))) (ei2 : PySem.W.isClsIn K ec2 = true) (et2 : PySem.W.typeIn K (.ref ec2) = some (.type "type")) (en3 : PySem.W.nsIn K mainGlobals "NoPerson" = some (some (.ref ec3))) (ei3 : PySem.W.isClsIn K ec3 = true) (et3 : PySem.W.typeIn K (.ref ec3) = some (.type "type")) (en4 : PySem.W.nsIn K mainGlobals "NoNote" = some (some (.ref ec4))) (ei4 : PySem.W.isClsIn K ec4 = true) (et4 : PySem.W.typeIn K (.ref ec4) = some (.type "type")) (enA : PySem.W.nsIn K mainGlobals "ApartError" = some (some (.ref ecA))) (eiA : PySem.W.isClsIn K ecA = true) (etA : PySem.W.typeIn K (.ref ecA) = some (.type "type")) (ebA : PySem.W.subIn K (.ref ecA) (.type "BaseException") = some true) (env : PySem.W.nsIn K mainGlobals "ValueError" = some none) (ex0 : PySem.W.excIn K ec0 bmV newV = true) (ega0 : PySem.W.findIn K (.ref ec0) "__getattribute__" = some (some (.builtin "BaseException.__getattribute__"))) (egg0 : PySem.W.findIn K (.ref ec0) "__getattr__" = some none) (ecl0 : PySem.W.findIn K (.ref ec0) "__class__" = some (some (.builtin "object.__class__"))) (emo0 : PySem.W.mroIn K ec0 (.type "object") = some true) (emb0 : PySem.W.mroIn K ec0 (.type "BaseException") = some true) (es0_0 : PySem.W.subIn K (.ref ec0) (.ref ec0) = some true) (es0_1 : PySem.W.subIn K (.ref ec0) (.ref ec1) = some false) (es0_2 : PySem.W.subIn K (.ref ec0) (.ref ec2) = some false) (es0_3 : PySem.W.subIn K (.ref ec0) (.ref ec3) = some false) (es0_4 : PySem.W.subIn K (.ref ec0) (.ref ec4) = some false) (es0_A : PySem.W.subIn K (.ref ec0) (.ref ecA) = some true) (es0_v : PySem.W.subIn K (.ref ec0) (.type "ValueError") = some true) (ex1 : PySem.W.excIn K ec1 bmV newV = true) (ega1 : PySem.W.findIn K (.ref ec1) "__getattribute__" = some (some (.builtin "BaseException.__getattribute__"))) (egg1 : PySem.W.findIn K (.ref ec1) "__getattr__" = some none) (ecl1 : PySem.W.findIn K (.ref ec1) "__class__" = some (some (.builtin "object.__class__"))) (emo1 : PySem.W.mroIn K ec1 (.type "object") = some true) (emb1 : PySem.W.mroIn K ec1 (.type "BaseException") = some true) (es1_0 : PySem.W.subIn K (.ref ec1) (.ref ec0) = some false) (es1_1 : PySem.W.subIn K (.ref ec1) (.ref ec1) = some true) (es1_2 : PySem.W.subIn K (.ref ec1) (.ref ec2) = some false) (es1_3 : PySem.W.subIn K (.ref ec1) (.ref ec3) = some false) (es1_4 : PySem.W.subIn K (.ref ec1) (.ref ec4) = some false) (es1_A : PySem.W.subIn K (.ref ec1) (.ref ecA) = some true) (es1_v : PySem.W.subIn K (.ref ec1) (.type "ValueError") = some true) (ex2 : PySem.W.excIn K ec2 bmV newV = true) (ega2 : PySem.W.findIn K (.ref ec2) "__getattribute__" = some (some (.builtin "BaseException.__getattribute__"))) (egg2 : PySem.W.findIn K (.ref ec2) "__getattr__" = some none) (ecl2 : PySem.W.findIn K (.ref ec2) "__class__" = some (some (.builtin "object.__class__"))) (emo2 : PySem.W.mroIn K ec2 (.type "object") = some true) (emb2 : PySem.W.mroIn K ec2 (.type "BaseException") = some true) (es2_0 : PySem.W.subIn K (.ref ec2) (.ref ec0) = some false) (es2_1 : PySem.W.subIn K (.ref ec2) (.ref ec1) = some false) (es2_2 : PySem.W.subIn K (.ref ec2) (.ref ec2) = some true) (es2_3 : PySem.W.subIn K (.ref ec2) (.ref ec3) = some false) (es2_4 : PySem.W.subIn K (.ref ec2) (.ref ec4) = some false) (es2_A : PySem.W.subIn K (.ref ec2) (.ref ecA) = some true) (es2_v : PySem.W.subIn K (.ref ec2) (.type "ValueError") = some true) (ex3 : PySem.W.excIn K ec3 bmV newV = true) (ega3 : PySem.W.findIn K (.ref ec3) "__getattribute__" = some (some (.builtin "BaseException.__getattribute__"))) (egg3 : PySem.W.findIn K (.ref ec3) "__getattr__" = some none) (ecl3 : PySem.W.findIn K (.ref ec3) "__class__" = some (some (.builtin "object.__class__"))) (emo3 : PySem.W.mroIn K ec3 (.type "object") = some true) (emb3 : PySem.W.mroIn K ec3 (.type "BaseException") = some true) (es3_0 : PySem.W.subIn K (.ref ec3) (.ref ec0) = some false) (es3_1 : PySem.W.subIn K (.ref ec3) (.ref ec1) = some false) (es3_2 : PySem.W.subIn K (.ref ec3) (.ref ec2) = some false) (es3_3 : PySem.W.subIn K (.ref ec3) (.ref ec3) = some true) (es3_4 : PySem.W.subIn K (.ref ec3) (.ref ec4) = some false) (es3_A : PySem.W.subIn K (.ref ec3) (.ref ecA) = some true) (es3_v : PySem.W.subIn K (.ref ec3) (.type "ValueError") = some true)
    (z0 : PySem.W.nsIn K mainGlobals "len" = some none)
    (z1 : PySem.W.nsIn K mainGlobals "range" = some none)
    (z2 : PySem.W.nsIn K mainGlobals "list" = some none)
    (z3 : PySem.W.nsIn K mainGlobals "all" = some none)
    (z4 : PySem.W.nsIn K mainGlobals "isinstance" = some none)
    (z5 : PySem.W.nsIn K mainGlobals "int" = some none)
    (z6 : PySem.W.nsIn K mainGlobals "bool" = some none)
    (z7 : PySem.W.nsIn K mainGlobals "tuple" = some none)
    (z8 : PySem.W.nsIn K mainGlobals "min" = some none)
    (z9 : PySem.W.nsIn K mainGlobals "max" = some none)
    (z10 : PySem.W.nsIn K mainGlobals "enumerate" = some none)
    (z11 : PySem.W.nsIn K mainGlobals "reversed" = some none) :
    ∃ fd : FuncData, (∀ (s : Shared) (v : Value), BindsTo s fd ⟨[v], []⟩ [("script", v)]) ∧ ∀ base : Heap, K.In base → base.Ns mainGlobals mg → FnOk l.prog w K mg base CX0 13 fa fd ["script"] (spLaw K) := by
  have e := hfa.symm.trans (PySem.W.mg_of X G a57)
  cases e
  have B : Bn mg := ⟨PySem.W.mg_none_of X G z0, PySem.W.mg_none_of X G z1, PySem.W.mg_none_of X G z2, PySem.W.mg_none_of X G z3, PySem.W.mg_none_of X G z4, PySem.W.mg_none_of X G z5, PySem.W.mg_none_of X G z6, PySem.W.mg_none_of X G z7, PySem.W.mg_none_of X G z8, PySem.W.mg_none_of X G z9, PySem.W.mg_none_of X G z10, PySem.W.mg_none_of X G z11⟩
  have F12 := fun_mk (st := s_check_size) l12 c12 k12
  have D_check_size : Def K mg "check_size" s_check_size ["size", "greatest"] := ⟨f12, _, F12, PySem.W.mg_of X G a12, binds2 F12 (fun _ _ _ _ _ _ _ _ => rfl)⟩
  have F13 := fun_mk (st := s_check_row) l13 c13 k13
  have D_check_row : Def K mg "check_row" s_check_row ["row"] := ⟨f13, _, F13, PySem.W.mg_of X G a13, binds1 F13 (fun _ _ _ _ _ _ _ => rfl)⟩
  have F14 := fun_mk (st := s_found_places) l14 c14 k14
  have D_found_places : Def K mg "found_places" s_found_places ["row"] := ⟨f14, _, F14, PySem.W.mg_of X G a14, binds1 F14 (fun _ _ _ _ _ _ _ => rfl)⟩
  have F15 := fun_mk (st := s_stands_well) l15 c15 k15
  have D_stands_well : Def K mg "stands_well" s_stands_well ["number", "some"] := ⟨f15, _, F15, PySem.W.mg_of X G a15, binds2 F15 (fun _ _ _ _ _ _ _ _ => rfl)⟩
  have F16 := fun_mk (st := s_is_row) l16 c16 k16
  have D_is_row : Def K mg "is_row" s_is_row ["row"] := ⟨f16, _, F16, PySem.W.mg_of X G a16, binds1 F16 (fun _ _ _ _ _ _ _ => rfl)⟩
  have F17 := fun_mk (st := s_contrary) l17 c17 k17
  have D_contrary : Def K mg "contrary" s_contrary ["row"] := ⟨f17, _, F17, PySem.W.mg_of X G a17, binds1 F17 (fun _ _ _ _ _ _ _ => rfl)⟩
  have F18 := fun_mk (st := s_places) l18 c18 k18
  have D_places : Def K mg "places" s_places ["row"] := ⟨f18, _, F18, PySem.W.mg_of X G a18, binds1 F18 (fun _ _ _ _ _ _ _ => rfl)⟩
  have F19 := fun_mk (st := s_can_be) l19 c19 k19
  have D_can_be : Def K mg "can_be" s_can_be ["size"] := ⟨f19, _, F19, PySem.W.mg_of X G a19, binds1 F19 (fun _ _ _ _ _ _ _ => rfl)⟩
  have F20 := fun_mk (st := s_reckoned) l20 c20 k20
  have D_reckoned : Def K mg "reckoned" s_reckoned ["size"] := ⟨f20, _, F20, PySem.W.mg_of X G a20, binds1 F20 (fun _ _ _ _ _ _ _ => rfl)⟩
  have F21 := fun_mk (st := s_first_place) l21 c21 k21
  have D_first_place : Def K mg "first_place" s_first_place ["number", "size"] := ⟨f21, _, F21, PySem.W.mg_of X G a21, binds2 F21 (fun _ _ _ _ _ _ _ _ => rfl)⟩
  have F22 := fun_mk (st := s_with_number) l22 c22 k22
  have D_with_number : Def K mg "with_number" s_with_number ["part", "number", "first"] := ⟨f22, _, F22, PySem.W.mg_of X G a22, binds3 F22 (fun _ _ _ _ _ _ _ _ _ => rfl)⟩
  have F23 := fun_mk (st := s_row_of) l23 c23 k23
  have D_row_of : Def K mg "row_of" s_row_of ["size"] := ⟨f23, _, F23, PySem.W.mg_of X G a23, binds1 F23 (fun _ _ _ _ _ _ _ => rfl)⟩
  have F24 := fun_mk (st := s_fits) l24 c24 k24
  have D_fits : Def K mg "fits" s_fits ["part", "number", "first"] := ⟨f24, _, F24, PySem.W.mg_of X G a24, binds3 F24 (fun _ _ _ _ _ _ _ _ _ => rfl)⟩
  have F25 := fun_mk (st := s_carried_on) l25 c25 k25
  have D_carried_on : Def K mg "carried_on" s_carried_on ["part"] := ⟨f25, _, F25, PySem.W.mg_of X G a25, binds1 F25 (fun _ _ _ _ _ _ _ => rfl)⟩
  have F26 := fun_mk (st := s_all_rows) l26 c26 k26
  have D_all_rows : Def K mg "all_rows" s_all_rows ["size"] := ⟨f26, _, F26, PySem.W.mg_of X G a26, binds1 F26 (fun _ _ _ _ _ _ _ => rfl)⟩
  have F27 := fun_mk (st := s_many) l27 c27 k27
  have D_many : Def K mg "many" s_many ["size"] := ⟨f27, _, F27, PySem.W.mg_of X G a27, binds1 F27 (fun _ _ _ _ _ _ _ => rfl)⟩
  have F28 := fun_mk (st := s_rows) l28 c28 k28
  have D_rows : Def K mg "rows" s_rows ["size"] := ⟨f28, _, F28, PySem.W.mg_of X G a28, binds1 F28 (fun _ _ _ _ _ _ _ => rfl)⟩
  have F31 := fun_mk (st := s_people) l31 c31 k31
  have D_people : Def K mg "people" s_people ["row"] := ⟨f31, _, F31, PySem.W.mg_of X G a31, binds1 F31 (fun _ _ _ _ _ _ _ => rfl)⟩
  have F32 := fun_mk (st := s_is_person) l32 c32 k32
  have D_is_person : Def K mg "is_person" s_is_person ["person", "count"] := ⟨f32, _, F32, PySem.W.mg_of X G a32, binds2 F32 (fun _ _ _ _ _ _ _ _ => rfl)⟩
  have F33 := fun_mk (st := s_are_two_people) l33 c33 k33
  have D_are_two_people : Def K mg "are_two_people" s_are_two_people ["one", "other", "count"] := ⟨f33, _, F33, PySem.W.mg_of X G a33, binds3 F33 (fun _ _ _ _ _ _ _ _ _ => rfl)⟩
  have F34 := fun_mk (st := s_base_group) l34 c34 k34
  have D_base_group : Def K mg "base_group" s_base_group ["row", "number"] := ⟨f34, _, F34, PySem.W.mg_of X G a34, binds2 F34 (fun _ _ _ _ _ _ _ _ => rfl)⟩
  have F35 := fun_mk (st := s_turned) l35 c35 k35
  have D_turned : Def K mg "turned" s_turned ["three", "step", "count"] := ⟨f35, _, F35, PySem.W.mg_of X G a35, binds3 F35 (fun _ _ _ _ _ _ _ _ _ => rfl)⟩
  have F36 := fun_mk (st := s_turned_to) l36 c36 k36
  have D_turned_to : Def K mg "turned_to" s_turned_to ["three", "person", "count"] := ⟨f36, _, F36, PySem.W.mg_of X G a36, binds3 F36 (fun _ _ _ _ _ _ _ _ _ => rfl)⟩
  have F37 := fun_mk (st := s_number_of_step) l37 c37 k37
  have D_number_of_step : Def K mg "number_of_step" s_number_of_step ["row", "step"] := ⟨f37, _, F37, PySem.W.mg_of X G a37, binds2 F37 (fun _ _ _ _ _ _ _ _ => rfl)⟩
  have F38 := fun_mk (st := s_group_of_two) l38 c38 k38
  have D_group_of_two : Def K mg "group_of_two" s_group_of_two ["row", "one", "other", "count"] := ⟨f38, _, F38, PySem.W.mg_of X G a38, binds4 F38 (fun _ _ _ _ _ _ _ _ _ _ => rfl)⟩
  have F39 := fun_mk (st := s_group) l39 c39 k39
  have D_group : Def K mg "group" s_group ["row", "one", "other"] := ⟨f39, _, F39, PySem.W.mg_of X G a39, binds3 F39 (fun _ _ _ _ _ _ _ _ _ => rfl)⟩
  have F40 := fun_mk (st := s_third) l40 c40 k40
  have D_third : Def K mg "third" s_third ["row", "one", "other"] := ⟨f40, _, F40, PySem.W.mg_of X G a40, binds3 F40 (fun _ _ _ _ _ _ _ _ _ => rfl)⟩
  have F41 := fun_mk (st := s_day) l41 c41 k41
  have D_day : Def K mg "day" s_day ["row", "person"] := ⟨f41, _, F41, PySem.W.mg_of X G a41, binds2 F41 (fun _ _ _ _ _ _ _ _ => rfl)⟩
  have F42 := fun_mk (st := s_is_group) l42 c42 k42
  have D_is_group : Def K mg "is_group" s_is_group ["row", "some"] := ⟨f42, _, F42, PySem.W.mg_of X G a42, binds2 F42 (fun _ _ _ _ _ _ _ _ => rfl)⟩
  have F43 := fun_mk (st := s_groups) l43 c43 k43
  have D_groups : Def K mg "groups" s_groups ["row"] := ⟨f43, _, F43, PySem.W.mg_of X G a43, binds1 F43 (fun _ _ _ _ _ _ _ => rfl)⟩
  have F45 := fun_mk (st := s_shown) l45 c45 k45
  have D_shown : Def K mg "shown" s_shown ["row"] := ⟨f45, _, F45, PySem.W.mg_of X G a45, binds1 F45 (fun _ _ _ _ _ _ _ => rfl)⟩
  have F47 := fun_mk (st := s__law_cell_at) l47 c47 k47
  have D__law_cell_at : Def K mg "_law_cell_at" s__law_cell_at ["script", "k"] := ⟨f47, _, F47, PySem.W.mg_of X G a47, binds2 F47 (fun _ _ _ _ _ _ _ _ => rfl)⟩
  have F48 := fun_mk (st := s__law_draw) l48 c48 k48
  have D__law_draw : Def K mg "_law_draw" s__law_draw ["cell", "k", "bound"] := ⟨f48, _, F48, PySem.W.mg_of X G a48, binds3 F48 (fun _ _ _ _ _ _ _ _ _ => rfl)⟩
  have F50 := fun_mk (st := s__law_filled) l50 c50 k50
  have D__law_filled : Def K mg "_law_filled" s__law_filled ["row", "number", "cell"] := ⟨f50, _, F50, PySem.W.mg_of X G a50, binds3 F50 (fun _ _ _ _ _ _ _ _ _ => rfl)⟩
  have F51 := fun_mk (st := s__law_small_row) l51 c51 k51
  have D__law_small_row : Def K mg "_law_small_row" s__law_small_row ["script", "first"] := ⟨f51, _, F51, PySem.W.mg_of X G a51, binds2 F51 (fun _ _ _ _ _ _ _ _ => rfl)⟩
  have F52 := fun_mk (st := s__law_word_of) l52 c52 k52
  have D__law_word_of : Def K mg "_law_word_of" s__law_word_of ["e"] := ⟨f52, _, F52, PySem.W.mg_of X G a52, binds1 F52 (fun _ _ _ _ _ _ _ => rfl)⟩
  have F53 := fun_mk (st := s__law_first) l53 c53 k53
  have D__law_first : Def K mg "_law_first" s__law_first ["which", "size", "row"] := ⟨f53, _, F53, PySem.W.mg_of X G a53, binds3 F53 (fun _ _ _ _ _ _ _ _ _ => rfl)⟩
  have F54 := fun_mk (st := s__law_second) l54 c54 k54
  have D__law_second : Def K mg "_law_second" s__law_second ["which", "row", "one", "other"] := ⟨f54, _, F54, PySem.W.mg_of X G a54, binds4 F54 (fun _ _ _ _ _ _ _ _ _ _ => rfl)⟩
  have F55 := fun_mk (st := s__law_tried) l55 c55 k55
  have D__law_tried : Def K mg "_law_tried" s__law_tried ["which", "size", "row", "one", "other"] := ⟨f55, _, F55, PySem.W.mg_of X G a55, binds5 F55 (fun _ _ _ _ _ _ _ _ _ _ _ => rfl)⟩
  have F56 := fun_mk (st := s__law_bad_row) l56 c56 k56
  have D__law_bad_row : Def K mg "_law_bad_row" s__law_bad_row ["script", "row"] := ⟨f56, _, F56, PySem.W.mg_of X G a56, binds2 F56 (fun _ _ _ _ _ _ _ _ => rfl)⟩
  have F57 := fun_mk (st := s_law) l57 c57 k57
  refine ⟨PySem.W.fnOf "law" "law" (defArgs s_law) (defBody s_law) (defScope s_law) .none kV57 dc57 pm57 an57 cd57 ct57, fun s v => .of_eq rfl, fun base _ _ => ?_⟩
  have hT : ∀ H, SqT K H t5 ([1, 1, 3, 4, 5, 3, 2, 4, 2, 5].map V.int) := fun H => .inr ⟨_, _, n5, g3, rfl, rfl, (by show 10 ≤ sizeLine; rw [sizeLine_eq]; decide), .cons ⟨_, rfl⟩ (.cons ⟨_, rfl⟩ (.cons ⟨_, rfl⟩ (.cons ⟨_, rfl⟩ (.cons ⟨_, rfl⟩ (.cons ⟨_, rfl⟩ (.cons ⟨_, rfl⟩ (.cons ⟨_, rfl⟩ (.cons ⟨_, rfl⟩ (.cons ⟨_, rfl⟩ (.nil))))))))))⟩
  have hG := PySem.W.mg_of X G g1
  have hS := PySem.W.mg_none_of X G zn_sorted
  have hSum := PySem.W.mg_none_of X G zn_sum
  have hStr := PySem.W.mg_none_of X G zn_str
  have c_cell := ok_cell (P := l.prog) (w := w) (base := base) D__law_cell_at B
  have c_draw := ok_draw (P := l.prog) (w := w) (base := base) D__law_draw
  have c_check := ok_check (P := l.prog) (w := w) (base := base) D_check_size
  have c_can := ok_can D_can_be hG c_check
  have c_reck := ok_reck D_reckoned hG c_check
  have c_first := ok_first (P := l.prog) (w := w) (base := base) D_first_place
  have c_with := ok_with (P := l.prog) (w := w) (base := base) D_with_number B
  have c_rowOf := ok_rowOf D_row_of B (PySem.W.mg_of X G g2) hT c_can c_with c_first
  have c_found := ok_found (P := l.prog) (w := w) (base := base) D_found_places B
  have c_sw := ok_sw (P := l.prog) (w := w) (base := base) D_stands_well B
  have c_isRow := ok_isRow D_is_row B hG c_found c_sw
  have c_crow := ok_crow D_check_row c_isRow
  have c_filled := ok_filled D__law_filled B c_draw
  have c_small := ok_small D__law_small_row B c_cell c_filled
  have c_fits := ok_fits (P := l.prog) (w := w) (base := base) D_fits B
  have c_carried := ok_carried D_carried_on B c_fits c_with
  have c_allRows := ok_allRows D_all_rows B c_carried
  have c_many := ok_many D_many B (PySem.W.mg_of X G g8) c_check c_allRows
  have c_rows := ok_rows D_rows B (PySem.W.mg_of X G g5) c_check c_allRows
  have c_contrary := ok_contrary D_contrary B c_crow
  have c_places := ok_places D_places B c_crow c_found
  have c_people := ok_people D_people B c_crow
  have c_isPerson := ok_isPerson (P := l.prog) (w := w) (base := base) D_is_person
  have c_twoP := ok_twoP D_are_two_people c_isPerson
  have c_base := ok_base (P := l.prog) (w := w) (base := base) D_base_group B
  have c_turned := ok_turned (P := l.prog) (w := w) (base := base) D_turned B hS
  have c_turnedTo := ok_turnedTo D_turned_to c_turned
  have c_numStep := ok_numStep (P := l.prog) (w := w) (base := base) D_number_of_step B
  have c_got := ok_got D_group_of_two B c_base c_numStep c_turnedTo
  have c_group := ok_group D_group c_people c_twoP c_got
  have c_third := ok_third D_third hSum c_group
  have c_isGroup := ok_isGroup D_is_group c_people c_twoP c_got
  have c_day := ok_day D_day B hS c_people c_isPerson c_base c_turnedTo
  have c_groups := ok_groups D_groups B hS (PySem.W.mg_of X G g9) c_people c_check c_base c_turned
  have c_shown := ok_shown D_shown hStr c_crow
  have F5 : Five K mg ec0 ec1 ec2 ec3 ec4 := ⟨PySem.W.mg_of X G en0, PySem.W.mg_of X G en1, PySem.W.mg_of X G en2, PySem.W.mg_of X G en3, PySem.W.mg_of X G en4, PySem.W.mg_none_of X G env⟩
  have X0 : Err K mg "NoSize" ec0 := ⟨PySem.W.mg_of X G en0, ex0, ⟨ega0, egg0, ecl0, emo0, emb0, ei0⟩⟩
  have ne0_1 : (Value.ref ec0 == Value.ref ec1) = true → false = true := fun z => by have z := Value.ref.inj (beq_iff_eq.mp z); rw [← z, es0_0] at es0_1; cases es0_1
  have ne0_2 : (Value.ref ec0 == Value.ref ec2) = true → false = true := fun z => by have z := Value.ref.inj (beq_iff_eq.mp z); rw [← z, es0_0] at es0_2; cases es0_2
  have ne0_3 : (Value.ref ec0 == Value.ref ec3) = true → false = true := fun z => by have z := Value.ref.inj (beq_iff_eq.mp z); rw [← z, es0_0] at es0_3; cases es0_3
  have ne0_4 : (Value.ref ec0 == Value.ref ec4) = true → false = true := fun z => by have z := Value.ref.inj (beq_iff_eq.mp z); rw [← z, es0_0] at es0_4; cases es0_4
  have kd0 : Kind K ec0 ec1 ec2 ec3 ec4 ec0 0 := ⟨X0.xc, kit_of_sub ei0 et0 es0_0 (fun _ => rfl), kit_of_sub ei1 et1 es0_1 ne0_1, kit_of_sub ei2 et2 es0_2 ne0_2, kit_of_sub ei3 et3 es0_3 ne0_3, kit_of_sub ei4 et4 es0_4 ne0_4, kit_of_ty (by decide +kernel) es0_v⟩
  have hx0 := exm_of ebA eiA etA es0_A
  have X1 : Err K mg "NoSuch" ec1 := ⟨PySem.W.mg_of X G en1, ex1, ⟨ega1, egg1, ecl1, emo1, emb1, ei1⟩⟩
  have ne1_0 : (Value.ref ec1 == Value.ref ec0) = true → false = true := fun z => by have z := Value.ref.inj (beq_iff_eq.mp z); rw [← z, es1_1] at es1_0; cases es1_0
  have ne1_2 : (Value.ref ec1 == Value.ref ec2) = true → false = true := fun z => by have z := Value.ref.inj (beq_iff_eq.mp z); rw [← z, es1_1] at es1_2; cases es1_2
  have ne1_3 : (Value.ref ec1 == Value.ref ec3) = true → false = true := fun z => by have z := Value.ref.inj (beq_iff_eq.mp z); rw [← z, es1_1] at es1_3; cases es1_3
  have ne1_4 : (Value.ref ec1 == Value.ref ec4) = true → false = true := fun z => by have z := Value.ref.inj (beq_iff_eq.mp z); rw [← z, es1_1] at es1_4; cases es1_4
  have kd1 : Kind K ec0 ec1 ec2 ec3 ec4 ec1 1 := ⟨X1.xc, kit_of_sub ei0 et0 es1_0 ne1_0, kit_of_sub ei1 et1 es1_1 (fun _ => rfl), kit_of_sub ei2 et2 es1_2 ne1_2, kit_of_sub ei3 et3 es1_3 ne1_3, kit_of_sub ei4 et4 es1_4 ne1_4, kit_of_ty (by decide +kernel) es1_v⟩
  have hx1 := exm_of ebA eiA etA es1_A
  have X2 : Err K mg "NoRow" ec2 := ⟨PySem.W.mg_of X G en2, ex2, ⟨ega2, egg2, ecl2, emo2, emb2, ei2⟩⟩
  have ne2_0 : (Value.ref ec2 == Value.ref ec0) = true → false = true := fun z => by have z := Value.ref.inj (beq_iff_eq.mp z); rw [← z, es2_2] at es2_0; cases es2_0
  have ne2_1 : (Value.ref ec2 == Value.ref ec1) = true → false = true := fun z => by have z := Value.ref.inj (beq_iff_eq.mp z); rw [← z, es2_2] at es2_1; cases es2_1
  have ne2_3 : (Value.ref ec2 == Value.ref ec3) = true → false = true := fun z => by have z := Value.ref.inj (beq_iff_eq.mp z); rw [← z, es2_2] at es2_3; cases es2_3
  have ne2_4 : (Value.ref ec2 == Value.ref ec4) = true → false = true := fun z => by have z := Value.ref.inj (beq_iff_eq.mp z); rw [← z, es2_2] at es2_4; cases es2_4
  have kd2 : Kind K ec0 ec1 ec2 ec3 ec4 ec2 2 := ⟨X2.xc, kit_of_sub ei0 et0 es2_0 ne2_0, kit_of_sub ei1 et1 es2_1 ne2_1, kit_of_sub ei2 et2 es2_2 (fun _ => rfl), kit_of_sub ei3 et3 es2_3 ne2_3, kit_of_sub ei4 et4 es2_4 ne2_4, kit_of_ty (by decide +kernel) es2_v⟩
  have hx2 := exm_of ebA eiA etA es2_A
  have X3 : Err K mg "NoPerson" ec3 := ⟨PySem.W.mg_of X G en3, ex3, ⟨ega3, egg3, ecl3, emo3, emb3, ei3⟩⟩
  have ne3_0 : (Value.ref ec3 == Value.ref ec0) = true → false = true := fun z => by have z := Value.ref.inj (beq_iff_eq.mp z); rw [← z, es3_3] at es3_0; cases es3_0
  have ne3_1 : (Value.ref ec3 == Value.ref ec1) = true → false = true := fun z => by have z := Value.ref.inj (beq_iff_eq.mp z); rw [← z, es3_3] at es3_1; cases es3_1
  have ne3_2 : (Value.ref ec3 == Value.ref ec2) = true → false = true := fun z => by have z := Value.ref.inj (beq_iff_eq.mp z); rw [← z, es3_3] at es3_2; cases es3_2
  have ne3_4 : (Value.ref ec3 == Value.ref ec4) = true → false = true := fun z => by have z := Value.ref.inj (beq_iff_eq.mp z); rw [← z, es3_3] at es3_4; cases es3_4
  have kd3 : Kind K ec0 ec1 ec2 ec3 ec4 ec3 3 := ⟨X3.xc, kit_of_sub ei0 et0 es3_0 ne3_0, kit_of_sub ei1 et1 es3_1 ne3_1, kit_of_sub ei2 et2 es3_2 ne3_2, kit_of_sub ei3 et3 es3_3 (fun _ => rfl), kit_of_sub ei4 et4 es3_4 ne3_4, kit_of_ty (by decide +kernel) es3_v⟩
  have hx3 := exm_of ebA eiA etA es3_A
  have c_word := ok_word (P := l.prog) (w := w) (base := base) D__law_word_of B F5
  have c_checkE := ok_checkE (P := l.prog) (w := w) (base := base) D_check_size X0
  have c_canE := ok_canE D_can_be hG c_checkE
  have c_reckE := ok_reckE D_reckoned hG c_checkE
  have c_manyE := ok_manyE D_many (PySem.W.mg_of X G g8) c_checkE
  have c_rowsE := ok_rowsE D_rows (PySem.W.mg_of X G g5) c_checkE
  have c_rowOfN := ok_rowOfN D_row_of c_canE
  have c_rowOfS := ok_rowOfS D_row_of X1 c_can
  have c_crowE := ok_crowE D_check_row X2 c_isRow
  have c_contraryE := ok_contraryE D_contrary c_crowE
  have c_placesE := ok_placesE D_places c_crowE
  have c_shownE := ok_shownE D_shown c_crowE
  have c_peopleE := ok_peopleE D_people c_crowE
  have c_peopleO := CalE.or c_people.e c_peopleE
  have c_groupE := ok_groupE D_group X3 c_peopleO c_twoP
  have c_thirdE := ok_thirdE D_third hSum c_groupE
  have c_dayE := ok_dayE D_day X3 c_peopleO c_isPerson
  have c_isGroupE := ok_isGroupE D_is_group c_peopleE
  have c_groupsE := ok_groupsE D_groups B (PySem.W.mg_of X G g9) c_peopleO c_checkE
  have k_can := wk_can (k := 6) (c0 := ec0) (c1 := ec1) (c2 := ec2) (c3 := ec3) (c4 := ec4) (c_can.mono (by decide)) (c_canE.mono (by decide))
  have k_reck := wk_reck (k := 6) (c0 := ec0) (c1 := ec1) (c2 := ec2) (c3 := ec3) (c4 := ec4) (c_reck.mono (by decide)) (c_reckE.mono (by decide))
  have k_many := wk_many (k := 6) (c0 := ec0) (c1 := ec1) (c2 := ec2) (c3 := ec3) (c4 := ec4) (c_many.mono (by decide)) (c_manyE.mono (by decide))
  have k_rows := wk_rows (k := 6) (c0 := ec0) (c1 := ec1) (c2 := ec2) (c3 := ec3) (c4 := ec4) (c_rows.mono (by decide)) (c_rowsE.mono (by decide))
  have k_contrary := wk_contrary (k := 6) (c0 := ec0) (c1 := ec1) (c2 := ec2) (c3 := ec3) (c4 := ec4) (c_contrary.mono (by decide)) (c_contraryE.mono (by decide))
  have k_places := wk_places (k := 6) (c0 := ec0) (c1 := ec1) (c2 := ec2) (c3 := ec3) (c4 := ec4) (c_places.mono (by decide)) (c_placesE.mono (by decide))
  have k_shown := wk_shown (k := 6) (c0 := ec0) (c1 := ec1) (c2 := ec2) (c3 := ec3) (c4 := ec4) (c_shown.mono (by decide)) (c_shownE.mono (by decide))
  have k_people := wk_people (k := 6) (c0 := ec0) (c1 := ec1) (c2 := ec2) (c3 := ec3) (c4 := ec4) (c_people.mono (by decide)) (c_peopleE.mono (by decide))
  have k_isGroup := wk_isGroup (k := 6) (c0 := ec0) (c1 := ec1) (c2 := ec2) (c3 := ec3) (c4 := ec4) (c_isGroup.mono (by decide)) (c_isGroupE.mono (by decide))
  have k_groups := wk_groups (k := 6) (c0 := ec0) (c1 := ec1) (c2 := ec2) (c3 := ec3) (c4 := ec4) (c_groups.mono (by decide)) (c_groupsE.mono (by decide))
  have k_group := wk_group (k := 6) (c0 := ec0) (c1 := ec1) (c2 := ec2) (c3 := ec3) (c4 := ec4) (c_group.mono (by decide)) (c_groupE.mono (by decide))
  have k_third := wk_third (k := 6) (c0 := ec0) (c1 := ec1) (c2 := ec2) (c3 := ec3) (c4 := ec4) (c_third.mono (by decide)) (c_thirdE.mono (by decide))
  have k_day := wk_day (k := 6) (c0 := ec0) (c1 := ec1) (c2 := ec2) (c3 := ec3) (c4 := ec4) (c_day.mono (by decide)) (c_dayE.mono (by decide))
  have k_rowOf := wk_rowOf (k := 6) (c0 := ec0) (c1 := ec1) (c2 := ec2) (c3 := ec3) (c4 := ec4) (c_rowOf.mono (by decide)) (c_rowOfN.mono (by decide)) (c_rowOfS.mono (by decide))
  have c_first12 := ok_first12 (k := 6) D__law_first k_can k_reck k_rowOf k_many k_rows k_places k_contrary k_shown k_people
  have c_second12 := ok_second12 (k := 6) D__law_second k_groups k_isGroup k_third k_group k_day
  have hx12 : ∀ j, j < 4 → PySem.W.exmOne K (.ref (csOf ec0 ec1 ec2 ec3 ec4 j)) (.ref ecA) = some true := fun j hj => match j, hj with | 0, _ => hx0 | 1, _ => hx1 | 2, _ => hx2 | 3, _ => hx3
  have kd12 : ∀ j, j < 4 → Kind K ec0 ec1 ec2 ec3 ec4 (csOf ec0 ec1 ec2 ec3 ec4 j) j := fun j hj => match j, hj with | 0, _ => kd0 | 1, _ => kd1 | 2, _ => kd2 | 3, _ => kd3
  have c_tried := ok_tried (k := 6) D__law_tried (PySem.W.mg_of X G enA) hx12 kd12 c_first12 c_second12 c_word
  have c_bad := ok_bad D__law_bad_row B c_cell
  exact ok_law F57 B c_cell (c_small.mono (by decide)) (c_bad.mono (by decide)) (c_tried.mono (by decide)) (c_rowOf.mono (by decide))
theorem walk {l : PySem.W.OpenLaw} {q : Program} {loose : List Str} {XP : (Str → Option Value) → Heap → Prop} {YP : World → Heap → Prop} {d : DefRec} {K : Params → PySem.W.Frag} (hn : l.most = some 63) (hdf : d.params.defaults = [])
    (hY : ∀ (w : World) (h : Heap), YP w h → (K w.params).In h)
    (F : ∀ (w : World) (mg : Str → Option Value) (fa : Addr) (h : Heap), (K w.params).In h → h.Ns mainGlobals mg → mg d.name = some (.ref fa) →
      ∃ fd : FuncData, (∀ (s : Shared) (u : Value), BindsTo s fd ⟨[u], []⟩ [("script", u)]) ∧ ∀ base : Heap, (K w.params).In base → base.Ns mainGlobals mg → FnOk l.prog w (K w.params) mg base CX0 13 fa fd ["script"] (spLaw (K w.params))) :
    PySem.W.WalkO q loose XP YP l.row.toRowW d [] (fun f vs => PySem.call f vs) :=
  L2.walk_of (n := 63) (k := 13) (x := "script") (CX := fun _ => CX0) (sp := fun w => spLaw (K w.params)) hn (by decide) hdf ⟨rfl, by decide, by decide⟩ hY F (fun _ _ a ns hl _ hS => ⟨a, ns, rfl, hS, hl, fun _ => rfl⟩) fun _ _ _ _ _ z => z
end Law
theorem PySem.W.Fast.tw7363048287810344818 : True := trivial
theorem PySem.W.Fast.tw15844422712455446448 : True := trivial
theorem PySem.W.Fast.tw11786476575055413384 : True := trivial
theorem PySem.W.Fast.tw548063766241913671 : True := trivial
theorem PySem.W.Fast.tw15518393879081163118 : True := trivial
theorem PySem.W.Fast.tw13881814237664594718 : True := trivial
theorem PySem.W.Fast.tw7325967049947585276 : True := trivial
theorem PySem.W.Fast.tw16514744721318577025 : True := trivial
theorem PySem.W.Fast.tw17664254422508614310 : True := trivial
open PySem PySem.W PyProof.Rows
set_option maxRecDepth 100000 in
set_option maxHeartbeats 0 in
theorem PySem.Challenge.cw_sameapart_k12_refused_holds : PySem.Challenge.rw_sameapart_k12_refused.Holds := by
  w_on; o_law; k_head; (case hw => w_witness2)
  k_fill
  refine Law.walk (l := PySem.Challenge.rw_sameapart_k12_refused) rfl rfl (fun w h Y => PySem.W.kIn_of Y) ?F
  case F =>
    intro w mg fa h KX G hmg
    refine' Law.all_mk KX G hmg ?a12 ?l12 ?c12 ?k12 ?a13 ?l13 ?c13 ?k13 ?a14 ?l14 ?c14 ?k14 ?a15 ?l15 ?c15 ?k15 ?a16 ?l16 ?c16 ?k16 ?a17 ?l17 ?c17 ?k17 ?a18 ?l18 ?c18 ?k18 ?a19 ?l19 ?c19 ?k19 ?a20 ?l20 ?c20 ?k20 ?a21 ?l21 ?c21 ?k21 ?a22 ?l22 ?c22 ?k22 ?a23 ?l23 ?c23 ?k23 ?a24 ?l24 ?c24 ?k24 ?a25 ?l25 ?c25 ?k25 ?a26 ?l26 ?c26 ?k26 ?a27 ?l27 ?c27 ?k27 ?a28 ?l28 ?c28 ?k28 ?a31 ?l31 ?c31 ?k31 ?a32 ?l32 ?c32 ?k32 ?a33 ?l33 ?c33 ?k33 ?a34 ?l34 ?c34 ?k34 ?a35 ?l35 ?c35 ?k35 ?a36 ?l36 ?c36 ?k36 ?a37 ?l37 ?c37 ?k37 ?a38 ?l38 ?c38 ?k38 ?a39 ?l39 ?c39 ?k39 ?a40 ?l40 ?c40 ?k40 ?a41 ?l41 ?c41 ?k41 ?a42 ?l42 ?c42 ?k42 ?a43 ?l43 ?c43 ?k43 ?a45 ?l45 ?c45 ?k45 ?a47 ?l47 ?c47 ?k47 ?a48 ?l48 ?c48 ?k48 ?a50 ?l50 ?c50 ?k50 ?a51 ?l51 ?c51 ?k51 ?a52 ?l52 ?c52 ?k52 ?a53 ?l53 ?c53 ?k53 ?a54 ?l54 ?c54 ?k54 ?a55 ?l55 ?c55 ?k55 ?a56 ?l56 ?c56 ?k56 ?a57 ?l57 ?c57 ?k57 ?g1 ?g2 ?g3 ?g8 ?g5 ?g9 ?zn_sorted ?zn_sum ?zn_str ?en0 ?ei0 ?et0 ?en1 ?ei1 ?et1 ?en2 ?ei2 ?et2 ?en3 ?ei3 ?et3 ?en4 ?ei4 ?et4 ?enA ?eiA ?etA ?ebA ?env ?ex0 ?ega0 ?egg0 ?ecl0 ?emo0 ?emb0 ?es0_0 ?es0_1 ?es0_2 ?es0_3 ?es0_4 ?es0_A ?es0_v ?ex1 ?ega1 ?egg1 ?ecl1 ?emo1 ?emb1 ?es1_0 ?es1_1 ?es1_2 ?es1_3 ?es1_4 ?es1_A ?es1_v ?ex2 ?ega2 ?egg2 ?ecl2 ?emo2 ?emb2 ?es2_0 ?es2_1 ?es2_2 ?es2_3 ?es2_4 ?es2_A ?es2_v ?ex3 ?ega3 ?egg3 ?ecl3 ?emo3 ?emb3 ?es3_0 ?es3_1 ?es3_2 ?es3_3 ?es3_4 ?es3_A ?es3_v ?z0 ?z1 ?z2 ?z3 ?z4 ?z5 ?z6 ?z7 ?z8 ?z9 ?z10 ?z11
    (case a12 => k_is)
    (case l12 => k_is)
    (case c12 => k_is)
    (case k12 => k_is)
    (case a13 => k_is)
    (case l13 => k_is)
    (case c13 => k_is)
    (case k13 => k_is)
    (case a14 => k_is)
    (case l14 => k_is)
    (case c14 => k_is)
    (case k14 => k_is)
    (case a15 => k_is)
    (case l15 => k_is)
    (case c15 => k_is)
    (case k15 => k_is)
    (case a16 => k_is)
    (case l16 => k_is)
    (case c16 => k_is)
    (case k16 => k_is)
    (case a17 => k_is)
    (case l17 => k_is)
    (case c17 => k_is)
    (case k17 => k_is)
    (case a18 => k_is)
    (case l18 => k_is)
    (case c18 => k_is)
    (case k18 => k_is)
    (case a19 => k_is)
    (case l19 => k_is)
    (case c19 => k_is)
    (case k19 => k_is)
    (case a20 => k_is)
    (case l20 => k_is)
    (case c20 => k_is)
    (case k20 => k_is)
    (case a21 => k_is)
    (case l21 => k_is)
    (case c21 => k_is)
    (case k21 => k_is)
    (case a22 => k_is)
    (case l22 => k_is)
    (case c22 => k_is)
    (case k22 => k_is)
    (case a23 => k_is)
    (case l23 => k_is)
    (case c23 => k_is)
    (case k23 => k_is)
    (case a24 => k_is)
    (case l24 => k_is)
    (case c24 => k_is)
    (case k24 => k_is)
    (case a25 => k_is)
    (case l25 => k_is)
    (case c25 => k_is)
    (case k25 => k_is)
    (case a26 => k_is)
    (case l26 => k_is)
    (case c26 => k_is)
    (case k26 => k_is)
    (case a27 => k_is)
    (case l27 => k_is)
    (case c27 => k_is)
    (case k27 => k_is)
    (case a28 => k_is)
    (case l28 => k_is)
    (case c28 => k_is)
    (case k28 => k_is)
    (case a31 => k_is)
    (case l31 => k_is)
    (case c31 => k_is)
    (case k31 => k_is)
    (case a32 => k_is)
    (case l32 => k_is)
    (case c32 => k_is)
    (case k32 => k_is)
    (case a33 => k_is)
    (case l33 => k_is)
    (case c33 => k_is)
    (case k33 => k_is)
    (case a34 => k_is)
    (case l34 => k_is)
    (case c34 => k_is)
    (case k34 => k_is)
    (case a35 => k_is)
    (case l35 => k_is)
    (case c35 => k_is)
    (case k35 => k_is)
    (case a36 => k_is)
    (case l36 => k_is)
    (case c36 => k_is)
    (case k36 => k_is)
    (case a37 => k_is)
    (case l37 => k_is)
    (case c37 => k_is)
    (case k37 => k_is)
    (case a38 => k_is)
    (case l38 => k_is)
    (case c38 => k_is)
    (case k38 => k_is)
    (case a39 => k_is)
    (case l39 => k_is)
    (case c39 => k_is)
    (case k39 => k_is)
    (case a40 => k_is)
    (case l40 => k_is)
    (case c40 => k_is)
    (case k40 => k_is)
    (case a41 => k_is)
    (case l41 => k_is)
    (case c41 => k_is)
    (case k41 => k_is)
    (case a42 => k_is)
    (case l42 => k_is)
    (case c42 => k_is)
    (case k42 => k_is)
    (case a43 => k_is)
    (case l43 => k_is)
    (case c43 => k_is)
    (case k43 => k_is)
    (case a45 => k_is)
    (case l45 => k_is)
    (case c45 => k_is)
    (case k45 => k_is)
    (case a47 => k_is)
    (case l47 => k_is)
    (case c47 => k_is)
    (case k47 => k_is)
    (case a48 => k_is)
    (case l48 => k_is)
    (case c48 => k_is)
    (case k48 => k_is)
    (case a50 => k_is)
    (case l50 => k_is)
    (case c50 => k_is)
    (case k50 => k_is)
    (case a51 => k_is)
    (case l51 => k_is)
    (case c51 => k_is)
    (case k51 => k_is)
    (case a52 => k_is)
    (case l52 => k_is)
    (case c52 => k_is)
    (case k52 => k_is)
    (case a53 => k_is)
    (case l53 => k_is)
    (case c53 => k_is)
    (case k53 => k_is)
    (case a54 => k_is)
    (case l54 => k_is)
    (case c54 => k_is)
    (case k54 => k_is)
    (case a55 => k_is)
    (case l55 => k_is)
    (case c55 => k_is)
    (case k55 => k_is)
    (case a56 => k_is)
    (case l56 => k_is)
    (case c56 => k_is)
    (case k56 => k_is)
    (case a57 => k_is)
    (case l57 => k_is)
    (case c57 => k_is)
    (case k57 => k_is)
    (case g1 => k_is)
    (case g2 => k_is)
    (case g3 => k_is)
    (case g8 => k_is)
    (case g5 => k_is)
    (case g9 => k_is)
    (case zn_sorted => k_is)
    (case zn_sum => k_is)
    (case zn_str => k_is)
    (case en0 => k_is)
    (case ei0 => k_is)
    (case et0 => k_is)
    (case en1 => k_is)
    (case ei1 => k_is)
    (case et1 => k_is)
    (case en2 => k_is)
    (case ei2 => k_is)
    (case et2 => k_is)
    (case en3 => k_is)
    (case ei3 => k_is)
    (case et3 => k_is)
    (case en4 => k_is)
    (case ei4 => k_is)
    (case et4 => k_is)
    (case enA => k_is)
    (case eiA => k_is)
    (case etA => k_is)
    (case ebA => k_is)
    (case env => k_is)
    (case ex0 => k_exc)
    (case ega0 => k_is)
    (case egg0 => k_is)
    (case ecl0 => k_is)
    (case emo0 => k_is)
    (case emb0 => k_is)
    (case es0_0 => k_is)
    (case es0_1 => k_is)
    (case es0_2 => k_is)
    (case es0_3 => k_is)
    (case es0_4 => k_is)
    (case es0_A => k_is)
    (case es0_v => k_is)
    (case ex1 => k_exc)
    (case ega1 => k_is)
    (case egg1 => k_is)
    (case ecl1 => k_is)
    (case emo1 => k_is)
    (case emb1 => k_is)
    (case es1_0 => k_is)
    (case es1_1 => k_is)
    (case es1_2 => k_is)
    (case es1_3 => k_is)
    (case es1_4 => k_is)
    (case es1_A => k_is)
    (case es1_v => k_is)
    (case ex2 => k_exc)
    (case ega2 => k_is)
    (case egg2 => k_is)
    (case ecl2 => k_is)
    (case emo2 => k_is)
    (case emb2 => k_is)
    (case es2_0 => k_is)
    (case es2_1 => k_is)
    (case es2_2 => k_is)
    (case es2_3 => k_is)
    (case es2_4 => k_is)
    (case es2_A => k_is)
    (case es2_v => k_is)
    (case ex3 => k_exc)
    (case ega3 => k_is)
    (case egg3 => k_is)
    (case ecl3 => k_is)
    (case emo3 => k_is)
    (case emb3 => k_is)
    (case es3_0 => k_is)
    (case es3_1 => k_is)
    (case es3_2 => k_is)
    (case es3_3 => k_is)
    (case es3_4 => k_is)
    (case es3_A => k_is)
    (case es3_v => k_is)
    (case z0 => k_is)
    (case z1 => k_is)
    (case z2 => k_is)
    (case z3 => k_is)
    (case z4 => k_is)
    (case z5 => k_is)
    (case z6 => k_is)
    (case z7 => k_is)
    (case z8 => k_is)
    (case z9 => k_is)
    (case z10 => k_is)
    (case z11 => k_is)