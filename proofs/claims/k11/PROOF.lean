import PyProof.Rows.All
import Wide.All
import OpenK.AllK
import Wide.FinOn
import Lean
import PyProof.EqAt
import PyProof.EqKinds
import PyProof.TupleCall
import PySem.Challenge.RW_sameapart_k11_read_or_refused
set_option Elab.async false
set_option linter.all false
set_option maxRecDepth 100000
namespace L2
open PySem PySem.Spec PyProof.Rows
abbrev Key := Sum Int Str
def keyIs : Key → Value → Bool
  | .inl k, v => Value.isInt k v
  | .inr x, v => Value.isStrOf x v
def keyH (w : World) : Key → Int
  | .inl k => hashInt k
  | .inr x => hashStr w x
theorem keyIs_shape : ∀ {k : Key} {v : Value}, keyIs k v = true → (∃ i t, k = Sum.inl i ∧ v = Value.int i t) ∨ (∃ x t, k = Sum.inr x ∧ v = Value.str x t)
  | .inl i, v, h => by
    obtain ⟨t, e⟩ := Value.isInt_shape (k := i) (v := v) h
    exact .inl ⟨i, t, rfl, e⟩
  | .inr x, v, h => by
    obtain ⟨t, e⟩ := Value.isStrOf_shape (x := x) (v := v) h
    exact .inr ⟨x, t, rfl, e⟩
theorem keyIs_int (i : Int) (t : Tok) : keyIs (.inl i) (.int i t) = true := by simp [keyIs, Value.isInt]
theorem keyIs_str (x : Str) (t : Tok) : keyIs (.inr x) (.str x t) = true := by simp [keyIs, Value.isStrOf]
theorem key_ll (a b : Int) : decide ((Sum.inl a : Key) = Sum.inl b) = (a == b) := by
  by_cases e : a = b
  · subst e; simp
  · have h : ¬ (Sum.inl a : Key) = Sum.inl b := fun q => e (Sum.inl.inj q)
    rw [decide_eq_false h]
    exact (beq_eq_false_iff_ne.mpr e).symm
theorem key_rr (a b : Str) : decide ((Sum.inr a : Key) = Sum.inr b) = decide (a = b) := by
  by_cases e : a = b
  · subst e; simp
  · have h : ¬ (Sum.inr a : Key) = Sum.inr b := fun q => e (Sum.inr.inj q)
    rw [decide_eq_false h, decide_eq_false e]
theorem key_lr (a : Int) (b : Str) : decide ((Sum.inl a : Key) = Sum.inr b) = false := decide_eq_false (fun q => nomatch q)
theorem key_rl (a : Str) (b : Int) : decide ((Sum.inr a : Key) = Sum.inl b) = false := decide_eq_false (fun q => nomatch q)
def mixKind (prog : Program) (w : World) : PySem.KeyKind prog w Key where
  is := keyIs
  hash := keyH w
  inj := fun v a b ha hb => by
    rcases keyIs_shape ha with ⟨i, t, rfl, rfl⟩ | ⟨x, t, rfl, rfl⟩
    · rcases keyIs_shape hb with ⟨j, u, rfl, e⟩ | ⟨y, u, rfl, e⟩
      · injection e with e1 _; rw [e1]
      · exact nomatch e
    · rcases keyIs_shape hb with ⟨j, u, rfl, e⟩ | ⟨y, u, rfl, e⟩
      · exact nomatch e
      · injection e with e1 _; rw [e1]
  byValue := fun k v h => by
    rcases keyIs_shape h with ⟨i, t, rfl, rfl⟩ | ⟨x, t, rfl, rfl⟩ <;> rfl
  pyHash := fun hv h => by
    rcases keyIs_shape hv with ⟨i, t, rfl, rfl⟩ | ⟨x, t, rfl, rfl⟩
    · exact wpAny_pyHash_int h
    · exact wpAny_pyHash_str h
  eqBool := fun hu hv h => by
    rcases keyIs_shape hu with ⟨i, t, rfl, rfl⟩ | ⟨x, t, rfl, rfl⟩
    · rcases keyIs_shape hv with ⟨j, u, rfl, rfl⟩ | ⟨y, u, rfl, rfl⟩
      · rw [key_ll] at h; exact wpAny_eqBool_int h
      · rw [key_lr] at h; exact SeqAt.EqAt.int_str i t y u _ _ _ _ h
    · rcases keyIs_shape hv with ⟨j, u, rfl, rfl⟩ | ⟨y, u, rfl, rfl⟩
      · rw [key_rl] at h; exact SeqAt.EqAt.str_int x t j u _ _ _ _ h
      · rw [key_rr] at h; exact wpAny_eqBool_str h
  «strs» := fun k x t v h => by
    rcases keyIs_shape h with ⟨i, u, rfl, e⟩ | ⟨y, u, rfl, e⟩
    · exact nomatch e
    · injection e with e1 _
      subst e1
      cases v <;> rfl
theorem mixKind_int (prog : Program) (w : World) (i : Int) (t : Tok) : (mixKind prog w).is (.inl i) (.int i t) = true := keyIs_int i t
theorem mixKind_str (prog : Program) (w : World) (x : Str) (t : Tok) : (mixKind prog w).is (.inr x) (.str x t) = true := keyIs_str x t
end L2
namespace L2
open PySem PySem.Spec PyProof.Rows
inductive V where
  | non | bl (b : Bool) | int (i : Int) | str (x : Str) | byt (b : Array UInt8) | flt (b : UInt64) | ref (a : Addr) | ty (n : String)
  deriving DecidableEq
def RelV : V → Value → Prop
  | .non, u => u = Value.none
  | .bl b, u => u = Value.bool b
  | .int i, u => ∃ t, u = Value.int i t
  | .str x, u => ∃ t, u = Value.str x t
  | .byt b, u => ∃ t, u = Value.bytes b t
  | .flt b, u => ∃ t, u = Value.float b t
  | .ref a, u => u = Value.ref a
  | .ty n, u => u = Value.type n
abbrev Vals : List V → List Value → Prop := Paired RelV
theorem Vals.length {xs : List V} {us : List Value} (r : Vals xs us) : xs.length = us.length := Paired.length r
theorem Vals.get : ∀ {xs : List V} {us : List Value} {i : Nat} {x : V}, Vals xs us → xs[i]? = some x → ∃ u, us[i]? = some u ∧ RelV x u
  | _, _, _, _, .nil, e => by simp at e
  | _, _, 0, _, .cons r _, e => by simp at e; subst e; exact ⟨_, rfl, r⟩
  | _, _, i + 1, x, .cons _ t, e => by
    obtain ⟨u, h1, h2⟩ := Vals.get (i := i) (x := x) t (by simpa using e)
    exact ⟨u, by simpa using h1, h2⟩
theorem Vals.set {x : V} {u : Value} (r : RelV x u) : ∀ {xs : List V} {us : List Value} (i : Nat), Vals xs us → Vals (xs.set i x) (us.set i u)
  | _, _, _, .nil => .nil
  | _, _, 0, .cons _ t => .cons r t
  | _, _, i + 1, .cons q t => .cons q (Vals.set r i t)
theorem Vals.append : ∀ {xs ys : List V} {us ws : List Value}, Vals xs us → Vals ys ws → Vals (xs ++ ys) (us ++ ws)
  | _, _, _, _, .nil, s => s
  | _, _, _, _, .cons r t, s => .cons r (Vals.append t s)
theorem Vals.take : ∀ {xs : List V} {us : List Value} (n : Nat), Vals xs us → Vals (xs.take n) (us.take n)
  | _, _, 0, _ => .nil
  | _, _, _ + 1, .nil => .nil
  | _, _, n + 1, .cons r t => .cons r (Vals.take n t)
theorem Vals.drop : ∀ {xs : List V} {us : List Value} (n : Nat), Vals xs us → Vals (xs.drop n) (us.drop n)
  | _, _, 0, r => r
  | _, _, _ + 1, .nil => .nil
  | _, _, n + 1, .cons _ t => Vals.drop n t
def RelO : Option V → Option Value → Prop
  | some v, some u => RelV v u
  | none, none => True
  | _, _ => False
def KV {κ : Type} : List (κ × V) → List (κ × Value) → Prop := Paired fun (p : κ × V) (q : κ × Value) => p.1 = q.1 ∧ RelV p.2 q.2
def kV : Key → V
  | .inl i => .int i
  | .inr x => .str x
inductive HO where
  | lst (xs : List V)
  | tup (xs : List V)
  | dK (kvs : List (Key × V)) | dT (kvs : List (List Key × V))
  | set (S : Int → Bool) (n : Nat)
  | ins (C dx : Addr) (fs : List (Str × V))
  | own (x : Addr)
  | xd (fs : List (Str × V))
  | met (f x : Addr)
  | rng (lo hi : Int)
  | frz (o : Obj) (u : HO)
  | tbl (ps : Array Value)
  | ext (φ : Heap → Prop)
abbrev Hp := Addr → Option HO
def upd (H : Hp) (a : Addr) (o : HO) : Hp := fun b => if b = a then some o else H b
theorem upd_same {H : Hp} {a : Addr} {o : HO} : upd H a o a = some o := by unfold upd; rw [if_pos rfl]
theorem upd_ne {H : Hp} {a b : Addr} {o : HO} (h : b ≠ a) : upd H a o b = H b := by unfold upd; rw [if_neg h]
theorem ne_of {H : Hp} {a b : Addr} {o u : HO} (h : H a = some o) (h' : H b = some u) (d : o ≠ u) : a ≠ b := by
  intro e; subst e; rw [h] at h'; exact d (Option.some.inj h')
theorem ne_of_none {H : Hp} {a b : Addr} {o : HO} (h : H a = some o) (h' : H b = none) : a ≠ b := by
  intro e; subst e; rw [h] at h'; cases h'
section
variable (P : Program) (w : World)
def ObjOk (H : Hp) (h : Heap) (a : Addr) : HO → Prop
  | .lst xs => xs.length ≤ sizeLine ∧ ∃ (its : List Value) (n : Nat), Vals xs its ∧ h.get? a = some { cls := .type "list", data := .seq its.toArray n }
  | .tup xs => xs.length ≤ sizeLine ∧ ∃ its : List Value, Vals xs its ∧ IsTup h a its.toArray
  | .dK kvs => kvs.length ≤ sizeLine ∧ (a == sysModules) = false ∧ ∃ vs, KV kvs vs ∧ h.DictOf (mixKind P w) a vs
  | .dT kvs => kvs.length ≤ sizeLine ∧ (a == sysModules) = false ∧ ∃ xs : List (List Key × Addr × Value),
      Paired (fun (p : List Key × V) (q : List Key × Addr × Value) => p.1 = q.1 ∧ H q.2.1 = some (.tup (p.1.map kV)) ∧ RelV p.2 q.2.2) kvs xs ∧
      ∃ o es ep, h.get? a = some o ∧ o.ExactDict ∧ o.data = .dict es ep ∧ es.toList = xs.map (entryOfKey (tupleKind (mixKind P w))) ∧ (xs.map (·.1)).Nodup
  | .set S n => h.SetOf (intKind P w) a S n
  | .ins C dx fs => H dx = some (.own a) ∧ fs.length ≤ 1000 ∧ dx ≠ a ∧ h.get? a = some (PySem.W.instObj C dx) ∧
      ∃ mA, h.Ns1 dx mA ∧ (∀ f, RelO (fs.lookup f) (mA f)) ∧ PySem.Within mA (fs.map (·.1))
  | .own _ => ∃ o, h.get? a = some o
  | .xd fs => ∃ mA, h.Ns1 a mA ∧ ∀ f, RelO (fs.lookup f) (mA f)
  | .rng lo hi => ∃ t u v, h.get? a = some { cls := .type "range", data := .fields #[.int lo t, .int hi u, .int 1 v] }
  | .frz o u => h.get? a = some o ∧ ObjOk H h a u
  | .tbl ps => h.get? a = some { cls := .none, data := .fields ps }
  | .met f x => h.get? a = some (PySem.W.methodObj (.ref f) (.ref x))
  | .ext φ => φ h ∧ (∃ o, h.get? a = some o) ∧ ∀ h1 h2 : Heap, φ h1 → (∀ o, h1.get? a = some o → h2.get? a = some o) → φ h2
def HOk (H : Hp) (h : Heap) : Prop := ∀ a o, H a = some o → ObjOk P w H h a o
end
section
variable {P : Program} {w : World} {H H' : Hp} {h h' : Heap} {a : Addr} {o : HO}
theorem ObjOk.lt (x : ObjOk P w H h a o) : a < h.objs.size := by
  cases o with
  | lst xs => obtain ⟨_, _, _, _, e⟩ := x; exact Heap.lt_size e
  | tup xs => obtain ⟨_, _, _, p⟩ := x; exact p.lt
  | dK kvs => obtain ⟨_, _, _, _, o, _, _, e, _⟩ := x; exact Heap.lt_size e
  | dT kvs => obtain ⟨_, _, _, _, o, _, _, e, _⟩ := x; exact Heap.lt_size e
  | set S n => obtain ⟨o, _, _, _, e, _⟩ := x; exact Heap.lt_size e
  | ins C dx fs => obtain ⟨_, _, _, e, _⟩ := x; exact Heap.lt_size e
  | own y => obtain ⟨_, e⟩ := x; exact Heap.lt_size e
  | xd fs => obtain ⟨_, ⟨_, _, _, e, _⟩, _⟩ := x; exact Heap.lt_size e
  | rng lo hi => obtain ⟨_, _, _, e⟩ := x; exact Heap.lt_size e
  | frz ob u => obtain ⟨e, _⟩ := x; exact Heap.lt_size e
  | tbl ps => exact Heap.lt_size (show h.get? a = some _ from x)
  | met f y => exact Heap.lt_size (show h.get? a = some _ from x)
  | ext φ => obtain ⟨_, ⟨_, e⟩, _⟩ := x; exact Heap.lt_size e
theorem Paired.mapP {α β : Type} {F G : α → β → Prop} : ∀ {l₁ : List α} {l₂ : List β}, Paired F l₁ l₂ → (∀ a b, F a b → G a b) → Paired G l₁ l₂
  | _, _, .nil, _ => .nil
  | _, _, .cons r t, f => .cons (f _ _ r) (Paired.mapP t f)
theorem ObjOk.stay (x : ObjOk P w H h a o) (k : ∀ b u, (b = a ∨ H b = some (.own a)) → h.get? b = some u → h'.get? b = some u)
    (ho : ∀ b, H b = some (.own a) → H' b = some (.own a)) (ht : ∀ b xs, H b = some (.tup xs) → H' b = some (.tup xs)) : ObjOk P w H' h' a o := by
  induction o with
  | lst xs => obtain ⟨z, its, n, r, e⟩ := x; exact ⟨z, its, n, r, k _ _ (.inl rfl) e⟩
  | tup xs => obtain ⟨z, its, r, ob, e, c⟩ := x; exact ⟨z, its, r, ob, k _ _ (.inl rfl) e, c⟩
  | dK kvs => obtain ⟨z, y, vs, r, ob, es, ep, e, c⟩ := x; exact ⟨z, y, vs, r, ob, es, ep, k _ _ (.inl rfl) e, c⟩
  | dT kvs =>
    obtain ⟨z, y, xs, r, ob, es, ep, e, c⟩ := x
    exact ⟨z, y, xs, Paired.mapP r fun p q z => ⟨z.1, ht _ _ z.2.1, z.2.2⟩, ob, es, ep, k _ _ (.inl rfl) e, c⟩
  | set S n => obtain ⟨ob, es, ep, t, e, c⟩ := x; exact ⟨ob, es, ep, t, k _ _ (.inl rfl) e, c⟩
  | ins C dx fs =>
    obtain ⟨d, z, ne, e, mA, ⟨od, es, ep, e2, c⟩, r⟩ := x
    exact ⟨ho _ d, z, ne, k _ _ (.inl rfl) e, mA, ⟨od, es, ep, k _ _ (.inr d) e2, c⟩, r⟩
  | own y => obtain ⟨ob, e⟩ := x; exact ⟨ob, k _ _ (.inl rfl) e⟩
  | xd fs => obtain ⟨mA, ⟨od, es, ep, e, c⟩, r⟩ := x; exact ⟨mA, ⟨od, es, ep, k _ _ (.inl rfl) e, c⟩, r⟩
  | rng lo hi => obtain ⟨t, u, v, e⟩ := x; exact ⟨t, u, v, k _ _ (.inl rfl) e⟩
  | frz ob u ih => obtain ⟨e, q⟩ := x; exact ⟨k _ _ (.inl rfl) e, ih q⟩
  | tbl ps =>
    have e : h.get? a = some { cls := .none, data := .fields ps } := x
    show h'.get? a = some { cls := .none, data := .fields ps }
    exact k a _ (.inl rfl) e
  | met f y =>
    have e : h.get? a = some (PySem.W.methodObj (.ref f) (.ref y)) := x
    show h'.get? a = some (PySem.W.methodObj (.ref f) (.ref y))
    exact k a _ (.inl rfl) e
  | ext φ => obtain ⟨p, ⟨o, e⟩, st⟩ := x; exact ⟨st _ _ p fun o q => k _ _ (.inl rfl) q, ⟨o, k _ _ (.inl rfl) e⟩, st⟩
theorem HOk.lt (x : HOk P w H h) (e : H a = some o) : a < h.objs.size := (x a o e).lt
theorem HOk.fresh (x : HOk P w H h) (e : h.objs.size ≤ a) : H a = none := by
  cases q : H a with
  | none => rfl
  | some u => exact absurd (Nat.lt_of_lt_of_le (x.lt q) e) (Nat.lt_irrefl _)
theorem HOk.kept (x : HOk P w H h) (k : ∀ b u, h.get? b = some u → h'.get? b = some u) : HOk P w H h' := fun a o e =>
  (x a o e).stay (fun b u _ q => k b u q) (fun _ q => q) fun _ _ q => q
theorem HOk.laid (x : HOk P w H h) (k : ∀ b u, h.get? b = some u → h'.get? b = some u) (hp : h.objs.size ≤ a) (new : ObjOk P w (upd H a o) h' a o) : HOk P w (upd H a o) h' := fun b u e => by
  have hn := x.fresh hp
  by_cases hb : b = a
  · subst hb; rw [upd_same] at e; cases e; exact new
  · rw [upd_ne hb] at e
    exact (x b u e).stay (fun c v _ q => k c v q) (fun c q => by rw [upd_ne (ne_of_none q hn)]; exact q) fun c xs q => by rw [upd_ne (ne_of_none q hn)]; exact q
end
def Rd (H : Hp) (a : Addr) (u : HO) : Prop := H a = some u ∨ ∃ o, H a = some (.frz o u)
theorem Rd.of {H : Hp} {a : Addr} {u : HO} (h : H a = some u) : Rd H a u := .inl h
theorem Rd.ok {P : Program} {w : World} {H : Hp} {h : Heap} {a : Addr} {u : HO} (r : Rd H a u) (x : HOk P w H h) : ObjOk P w H h a u := by
  rcases r with r | ⟨o, r⟩
  · exact x a u r
  · obtain ⟨_, q⟩ := x a _ r
    exact q
def Mut : Option HO → Prop
  | some (.lst _) => True
  | some (.dK _) => True
  | some (.dT _) => True
  | some (.set _ _) => True
  | some (.ins _ _ _) => True
  | some (.ext _) => True
  | _ => False
section
variable {P : Program} {w : World} {H : Hp} {h h' : Heap} {x e : Addr} {o' : HO}
theorem HOk.write (ok : HOk P w H h) (mu : Mut (H x)) (he : e = x ∨ H e = some (.own x)) (k : ∀ b u, b ≠ e → h.get? b = some u → h'.get? b = some u) (heo : ∃ u, h'.get? e = some u)
    (new : ObjOk P w (upd H x o') h' x o') : HOk P w (upd H x o') h' := fun b u q => by
  have nown : ∀ c y, H c = some (.own y) → c ≠ x := fun c y r z => by subst z; rw [r] at mu; exact mu
  have ntup : ∀ c xs, H c = some (.tup xs) → c ≠ x := fun c xs r z => by subst z; rw [r] at mu; exact mu
  by_cases hb : b = x
  · subst hb; rw [upd_same] at q; cases q; exact new
  · rw [upd_ne hb] at q
    by_cases hbe : b = e
    · have q' : H b = some (.own x) := by
        rcases he with z | z
        · exact absurd (hbe.trans z) hb
        · rw [hbe]; exact z
      rw [q] at q'; cases q'
      obtain ⟨v, hv⟩ := heo
      exact ⟨v, by rw [hbe]; exact hv⟩
    · refine (ok b u q).stay (fun c v hc r => k c v ?_ r) (fun c r => by rw [upd_ne (nown c b r)]; exact r) fun c xs r => by rw [upd_ne (ntup c xs r)]; exact r
      rcases hc with rfl | hc
      · exact hbe
      · rintro rfl
        rcases he with z | z
        · exact nown c b hc z
        · rw [hc] at z; cases z; exact hb rfl
end
structure Un (fs ex : List Addr) (H H' : Hp) (h h' : Heap) : Prop where
  keep : ∀ b o, h.get? b = some o → H b = none → b ∉ fs → b ∉ ex → h'.get? b = some o
  slot : ∀ b o, h.get? b = some o → H b = none → b ∈ fs → b ∉ ex → ∃ sl, h'.get? b = some { o with slots := sl }
  free : ∀ b o, h.get? b = some o → H b = none → b ∉ ex → H' b = none
  there : ∀ b o, h.get? b = some o → b ∉ ex → ∃ o', h'.get? b = some o'
  tups : ∀ b xs, H b = some (.tup xs) → H' b = some (.tup xs)
  frzs : ∀ b o u, H b = some (.frz o u) → H' b = some (.frz o u)
  tbls : ∀ b ps, H b = some (.tbl ps) → ∃ more, H' b = some (.tbl (ps ++ more))
section
variable {fs fs' ex ex' : List Addr} {H H1 H2 : Hp} {h h1 h2 h' : Heap} {a x e : Addr} {o : HO}
theorem Un.any (u : Un fs ex H H1 h h1) {b : Addr} {ob : Obj} (q : h.get? b = some ob) (n : H b = none) (hx : b ∉ ex) : ∃ sl, h1.get? b = some { ob with slots := sl } := by
  by_cases hb : b ∈ fs
  · exact u.slot b ob q n hb hx
  · exact ⟨ob.slots, u.keep b ob q n hb hx⟩
theorem Un.trans (a : Un fs ex H H1 h h1) (b : Un fs ex H1 H2 h1 h2) : Un fs ex H H2 h h2 where
  keep := fun c ob q n hc hx => b.keep c ob (a.keep c ob q n hc hx) (a.free c ob q n hx) hc hx
  slot := fun c ob q n hc hx => by
    obtain ⟨sl, e1⟩ := a.slot c ob q n hc hx
    obtain ⟨sl', e2⟩ := b.slot c _ e1 (a.free c ob q n hx) hc hx
    exact ⟨sl', e2⟩
  free := fun c ob q n hx => by
    obtain ⟨o', e1⟩ := a.there c ob q hx
    exact b.free c o' e1 (a.free c ob q n hx) hx
  there := fun c ob q hx => by
    obtain ⟨o', e1⟩ := a.there c ob q hx
    exact b.there c o' e1 hx
  tups := fun c xs q => b.tups c xs (a.tups c xs q)
  frzs := fun c ob xs q => b.frzs c ob xs (a.frzs c ob xs q)
  tbls := fun c ps q => by
    obtain ⟨m1, e1⟩ := a.tbls c ps q
    obtain ⟨m2, e2⟩ := b.tbls c _ e1
    exact ⟨m1 ++ m2, by rw [e2, Array.append_assoc]⟩
theorem Un.kept (k : ∀ b u, h.get? b = some u → h'.get? b = some u) : Un fs ex H H h h' :=
  ⟨fun b ob q _ _ _ => k b ob q, fun b ob q _ _ _ => ⟨ob.slots, k b ob q⟩, fun _ _ _ n _ => n, fun b ob q _ => ⟨ob, k b ob q⟩, fun _ _ q => q, fun _ _ _ q => q, fun _ ps q => ⟨#[], by rw [q]; simp⟩⟩
theorem Un.refl : Un fs ex H H h h := Un.kept fun _ _ q => q
theorem Un.laid (k : ∀ b u, h.get? b = some u → h'.get? b = some u) (hp : h.objs.size ≤ a) (hn : H a = none) : Un fs ex H (upd H a o) h h' where
  keep := fun b u q _ _ _ => k b u q
  slot := fun b u q _ _ _ => ⟨u.slots, k b u q⟩
  free := fun b u q n _ => by rw [upd_ne (Nat.ne_of_lt (Nat.lt_of_lt_of_le (Heap.lt_size q) hp))]; exact n
  there := fun b u q _ => ⟨u, k b u q⟩
  tups := fun b xs q => by rw [upd_ne (ne_of_none q hn)]; exact q
  frzs := fun b u xs q => by rw [upd_ne (ne_of_none q hn)]; exact q
  tbls := fun b ps q => ⟨#[], by rw [upd_ne (ne_of_none q hn), q]; simp⟩
theorem Un.write (mu : Mut (H x)) (he : e = x ∨ H e = some (.own x)) (k : ∀ b u, b ≠ e → h.get? b = some u → h'.get? b = some u) (heo : ∃ u, h'.get? e = some u) : Un fs ex H (upd H x o) h h' := by
  have hx : ∀ b, H b = none → b ≠ x := fun b n z => by subst z; rw [n] at mu; exact mu
  have hb : ∀ b, H b = none → b ≠ e := fun b n z => by
    subst z
    rcases he with r | r
    · exact hx b n r
    · rw [n] at r; cases r
  have hm : ∀ b u, H b = some u → ¬ Mut (some u) → b ≠ x := fun b u q nm z => by subst z; rw [q] at mu; exact nm mu
  refine ⟨fun b u q n _ _ => k b u (hb b n) q, fun b u q n _ _ => ⟨u.slots, k b u (hb b n) q⟩, fun b u q n _ => by rw [upd_ne (hx b n)]; exact n, fun b u q _ => ?_,
    fun b xs q => by rw [upd_ne (hm b _ q fun z => z)]; exact q, fun b u xs q => by rw [upd_ne (hm b _ q fun z => z)]; exact q, fun b ps q => ⟨#[], by rw [upd_ne (hm b _ q fun z => z), q]; simp⟩⟩
  by_cases hbe : b = e
  · subst hbe; exact heo
  · exact ⟨u, k b u hbe q⟩
theorem Un.mono (u : Un fs ex H H1 h h1) (hs : ∀ b ∈ fs, b ∈ fs') (hx : ∀ b ∈ ex, b ∈ ex') : Un fs' ex' H H1 h h1 :=
  ⟨fun b ob q n hb he => u.keep b ob q n (fun z => hb (hs b z)) fun z => he (hx b z), fun _ _ q n _ he => u.any q n fun z => he (hx _ z), fun b ob q n he => u.free b ob q n fun z => he (hx b z), fun b ob q he => u.there b ob q fun z => he (hx b z), u.tups, u.frzs, u.tbls⟩
end
def trk (h : Heap) (H : Hp) : List Addr := (List.range h.objs.size).filter fun a => (H a).isSome
def hidT (h : Heap) (H : Hp) : Heap := PySem.W.hideAll h (trk h H)
theorem hidT_size (h : Heap) (H : Hp) : (hidT h H).objs.size = h.objs.size := PySem.W.hideAll_size _ _
theorem hidT_get {h : Heap} {H : Hp} {b : Addr} {o : Obj} (e : h.get? b = some o) (n : H b = none) : (hidT h H).get? b = some o :=
  PySem.W.hideAll_get _ e fun hm => by
    have q : (H b).isSome = true := (List.mem_filter.mp hm).2
    rw [n] at q; simp at q
theorem of_hidT {h : Heap} {H : Hp} {b : Addr} {o : Obj} (e : (hidT h H).get? b = some o) : h.get? b = some o ∧ H b = none := by
  have e' : h.get? b = some o := PySem.W.of_hideAll (trk h H) e
  refine ⟨e', ?_⟩
  cases q : H b with
  | none => rfl
  | some x =>
    have hm : b ∈ trk h H := List.mem_filter.mpr ⟨List.mem_range.mpr (Heap.lt_size e'), by simp [q]⟩
    have z : (hidT h H).get? b = none := PySem.W.hideAll_none (trk h H) hm
    rw [z] at e; cases e
def allNews (g h : Heap) (L : Addr) : List (Addr × Obj) := (List.range h.objs.size).filterMap fun a => if a = L ∨ (g.get? a).isSome = true then none else (h.get? a).map fun o => (a, o)
def rest (g h : Heap) (L d : Addr) : List (Addr × Obj) := (allNews g h L).filter fun p => decide (p.1 ≠ d)
end L2
namespace L2
open PySem PySem.Spec PyProof.Rows
structure Mod (K : PySem.W.Frag) (mg : Str → Option Value) (base : Heap) : Prop where
  kin : K.In base
  glob : base.Ns mainGlobals mg
  blt : ∃ mb, base.Ns builtinsNs mb ∧ ∀ x : Str, x ≠ "__name__" → mb x = bootBuiltins x
  nolimit : base.NoLimit
structure Cx where
  prog : Program
  w : World
  K : PySem.W.Frag
  mg : Str → Option Value
  base : Heap
  A : Around
  N : List Str
  s₀ : Shared
  H₀ : Hp
  env : Env
  outer : List Env
  stack : List Env
  ex : List Addr
  fn : Str → Bool
  calm : Bool
  pn : List (Addr × Obj)
  xe : Value → Shared → Prop
def frs (l : List Env) : List Addr := l.filterMap (·.frame)
abbrev Cx.fs (X : Cx) : List Addr := frs X.outer
def Vis (sc : Scope) (x : Str) : Prop := sc.names.lookup x = some .local ∨ sc.names.lookup x = some .cell ∨ sc.names.lookup x = some .free
def Loc (sc : Scope) (x : Str) : Prop := sc.names.lookup x = some .local ∨ sc.names.lookup x = some .cell
def Look (env : Env) (h : Heap) (m : Str → Option Value) (x : Str) (u : Value) : Prop :=
  (env.kindOf x = some .local ∧ m x = some u) ∨ ((env.kindOf x = some .cell ∨ env.kindOf x = some .free) ∧ ∃ c, env.cells.lookup x = some c ∧ h.IsCell c (some u))
structure Cx.Ok (X : Cx) : Prop where
  mod : Mod X.K X.mg X.base
  kind : X.env.scope.kind = .function
  glob : X.env.globals = mainGlobals
  blt : X.env.builtins = builtinsNs
  above : X.s₀.heap.objs.size ≤ X.env.locals
  inj : ∀ x y c, X.env.cells.lookup x = some c → X.env.cells.lookup y = some c → x = y
  has : ∀ x, (X.env.kindOf x = some .cell ∨ X.env.kindOf x = some .free) → ∃ c, X.env.cells.lookup x = some c
  cab : ∀ x c, X.fn x = true → X.env.cells.lookup x = some c → X.s₀.heap.objs.size ≤ c
  hd : X.calm = true → X.A.handled = none
  frames : X.A.frames = some X.stack
  stk : X.stack = X.outer ∨ (X.stack = X.env :: X.outer ∧ X.env.frame = some X.env.locals)
  exf : ∀ b ∈ X.ex, b ≠ X.env.locals ∧ ∀ x c, X.env.cells.lookup x = some c → c ≠ b
  bs : ∀ b o, X.base.get? b = some o → X.s₀.heap.get? b = some o ∧ X.H₀ b = none
  bsz : X.base.objs.size ≤ X.s₀.heap.objs.size
  noex : ∀ b o, X.base.get? b = some o → b ∉ X.ex
  exfs : ∀ b ∈ X.ex, b ∉ X.fs
  funs : X.s₀.heap.FunFrames X.base X.outer
  frf : ∀ b ∈ X.fs, X.H₀ b = none
structure Inv (X : Cx) (pins : List (Addr × Obj)) (σ : List (Option V)) (H : Hp) (s : Shared) : Prop where
  ok : X.Ok
  os : s.os = X.s₀.os
  bare : AllBare s.gens
  base : Un X.fs X.ex X.H₀ H X.s₀.heap s.heap
  loc : ∃ m, s.heap.Ns X.env.locals m ∧ ∀ (i : Nat) (x : Str) (v : V), X.N[i]? = some x → σ[i]? = some (some v) → Vis X.env.scope x → ∃ u, RelV v u ∧ Look X.env s.heap m x u
  cell : ∀ x c, X.env.cells.lookup x = some c → ∃ v, s.heap.IsCell c v
  free : H X.env.locals = none
  freeC : ∀ x c, X.env.cells.lookup x = some c → H c = none
  pin : ∀ p ∈ X.pn ++ pins, s.heap.get? p.1 = some p.2 ∧ H p.1 = none ∧ p.1 ≠ X.env.locals ∧ p.1 ∉ X.fs ∧ ∀ v, p.2.data ≠ .cell v
  hok : HOk X.prog X.w H s.heap
  len : σ.length = X.N.length
section
variable {X : Cx} {pins : List (Addr × Obj)} {σ : List (Option V)} {H H' : Hp} {s : Shared} {h' : Heap}
theorem Cx.Ok.nofr (ok : X.Ok) {b : Addr} {o : Obj} (e : X.base.get? b = some o) : b ∉ X.fs := fun hb => by
  have := (ok.funs.mem hb).1
  rw [e] at this; cases this
theorem Inv.bs (I : Inv X pins σ H s) : ∀ b o, X.base.get? b = some o → s.heap.get? b = some o ∧ H b = none := fun b o e =>
  ⟨I.base.keep b o (I.ok.bs b o e).1 (I.ok.bs b o e).2 (I.ok.nofr e) (I.ok.noex b o e), I.base.free b o (I.ok.bs b o e).1 (I.ok.bs b o e).2 (I.ok.noex b o e)⟩
theorem Inv.bk (I : Inv X pins σ H s) : ∀ b o, X.base.get? b = some o → s.heap.get? b = some o := fun b o e => (I.bs b o e).1
theorem Inv.mod (I : Inv X pins σ H s) : Mod X.K X.mg X.base := I.ok.mod
theorem Inv.kIn (I : Inv X pins σ H s) : X.K.In s.heap := I.ok.mod.kin.keeps I.bk
theorem Inv.nolimit (I : Inv X pins σ H s) : s.heap.NoLimit := I.ok.mod.nolimit.keeps I.bk
theorem Inv.fr (I : Inv X pins σ H s) : ∃ m, Fr X.base X.env.locals s.heap m :=
  let ⟨m, hn, _⟩ := I.loc
  ⟨m, hn, I.bk, Nat.le_trans I.ok.bsz I.ok.above⟩
theorem Inv.lt (I : Inv X pins σ H s) : X.env.locals < s.heap.objs.size := let ⟨_, hn, _⟩ := I.loc; hn.lt
theorem Inv.sz (I : Inv X pins σ H s) : X.s₀.heap.objs.size ≤ s.heap.objs.size := Nat.le_trans I.ok.above (Nat.le_of_lt I.lt)
theorem Inv.nofs (I : Inv X pins σ H s) {a : Addr} (h : s.heap.objs.size ≤ a) : a ∉ X.fs := fun hb => by
  obtain ⟨_, o, ho, _⟩ := I.ok.funs.mem hb
  exact absurd (Nat.lt_of_lt_of_le (Heap.lt_size ho) (Nat.le_trans I.sz h)) (Nat.lt_irrefl _)
theorem Inv.cne (I : Inv X pins σ H s) : ∀ x c, X.env.cells.lookup x = some c → c ≠ X.env.locals := fun x c e z => by
  obtain ⟨v, o, ho, hd⟩ := I.cell x c e
  obtain ⟨m, ⟨o', es, ep, ho', hd', _⟩, _⟩ := I.loc
  rw [z, ho'] at ho; cases ho; rw [hd'] at hd; cases hd
theorem Inv.funs (I : Inv X pins σ H s) : s.heap.FunFrames X.base X.outer := by
  have all : ∀ (l : List Env), (∀ b ∈ frs l, b ∈ X.fs) → X.s₀.heap.FunFrames X.base l → s.heap.FunFrames X.base l := by
    intro l
    induction l with
    | nil => intro _ _; trivial
    | cons env r ih =>
      intro hs hl
      obtain ⟨hk, ⟨L, o, hf, hn, ho, hd⟩, hr⟩ := hl
      have hL : L ∈ X.fs := hs L (by unfold frs; rw [List.filterMap_cons, hf]; exact List.mem_cons_self)
      obtain ⟨sl, e⟩ := I.base.slot L o ho (I.ok.frf L hL) hL fun z => I.ok.exfs L z hL
      exact ⟨hk, ⟨L, _, hf, hn, e, hd⟩, ih (fun b hb => hs b (by unfold frs; rw [List.filterMap_cons, hf]; exact List.mem_cons_of_mem _ hb)) hr⟩
  exact all X.outer (fun _ hb => hb) I.ok.funs
theorem Inv.stack (I : Inv X pins σ H s) : s.heap.FunFrames X.base X.stack := by
  rcases I.ok.stk with e | ⟨e, hf⟩
  · rw [e]; exact I.funs
  · rw [e]
    obtain ⟨m, hn, _⟩ := I.loc
    refine .cons (by rw [I.ok.kind]; decide) hf hn ?_ I.funs
    exact Heap.get?_none_of_le (Nat.le_trans I.ok.bsz I.ok.above)
theorem Inv.stkSub (I : Inv X pins σ H s) : ∀ b ∈ frs X.stack, b ∈ X.env.locals :: X.fs := fun b hb => by
  rcases I.ok.stk with e | ⟨e, hf⟩
  · rw [e] at hb; exact List.mem_cons_of_mem _ hb
  · rw [e] at hb
    unfold frs at hb
    rw [List.filterMap_cons, hf] at hb
    exact hb
theorem Inv.stkFree (I : Inv X pins σ H s) : ∀ b ∈ frs X.stack, H b = none := fun b hb => by
  rcases List.mem_cons.mp (I.stkSub b hb) with e | hb
  · rw [e]; exact I.free
  · obtain ⟨_, o, ho, _⟩ := I.ok.funs.mem hb
    exact I.base.free b o ho (I.ok.frf b hb) fun z => I.ok.exfs b z hb
theorem Inv.step {g' : Array GenState} {t' : Nat} {d' : Drawn} {ch : List Addr} (I : Inv X pins σ H s)
    (hch : ∀ b ∈ ch, (b ∈ X.ex ∨ X.s₀.heap.objs.size ≤ b) ∧ b ≠ X.env.locals ∧ (∀ x c, X.env.cells.lookup x = some c → c ≠ b) ∧ ∀ p ∈ X.pn ++ pins, p.1 ≠ b)
    (keep : ∀ b o, b ≠ X.env.locals → b ∉ X.fs → b ∉ ch → s.heap.get? b = some o → H b = none → h'.get? b = some o)
    (slot : ∀ b o, b ≠ X.env.locals → b ∈ X.fs → b ∉ ch → s.heap.get? b = some o → H b = none → ∃ sl, h'.get? b = some { o with slots := sl }) (free : ∀ b o, b ∉ ch → s.heap.get? b = some o → H b = none → H' b = none)
    (there : ∀ b o, b ∉ ch → s.heap.get? b = some o → ∃ o', h'.get? b = some o')
    (tups : ∀ b xs, H b = some (.tup xs) → H' b = some (.tup xs)) (frzs : ∀ b o u, H b = some (.frz o u) → H' b = some (.frz o u)) (tbls : ∀ b ps, H b = some (.tbl ps) → ∃ more, H' b = some (.tbl (ps ++ more)))
    (ns : ∀ m, s.heap.Ns X.env.locals m → h'.Ns X.env.locals m) (hok : HOk X.prog X.w H' h') (hg : AllBare g') :
    Inv X pins σ H' { s with heap := h', gens := g', drawn := d', toks := t' } := by
  have neL : ∀ b o, X.s₀.heap.get? b = some o → b ≠ X.env.locals := fun b o e => Nat.ne_of_lt (Nat.lt_of_lt_of_le (Heap.lt_size e) I.ok.above)
  have neC : ∀ b o, X.s₀.heap.get? b = some o → b ∉ X.ex → b ∉ ch := fun b o e hx hb => by
    rcases (hch b hb).1 with z | z
    · exact hx z
    · exact absurd (Nat.lt_of_lt_of_le (Heap.lt_size e) z) (Nat.lt_irrefl _)
  have cellK : ∀ x c, X.env.cells.lookup x = some c → ∀ v, s.heap.IsCell c v → h'.IsCell c v := fun x c e v ⟨o, ho, hd⟩ => by
    have nch : c ∉ ch := fun z => (hch c z).2.2.1 x c e rfl
    by_cases hc : c ∈ X.fs
    · obtain ⟨sl, q⟩ := slot c o (I.cne x c e) hc nch ho (I.freeC x c e)
      exact ⟨_, q, hd⟩
    · exact ⟨o, keep c o (I.cne x c e) hc nch ho (I.freeC x c e), hd⟩
  refine ⟨I.ok, I.os, hg, ⟨fun b o e n hb hx => ?_, fun b o e n hb hx => ?_, fun b o e n hx => ?_, fun b o e hx => ?_, fun b xs e => tups b xs (I.base.tups b xs e), fun b o xs e => frzs b o xs (I.base.frzs b o xs e), fun b ps e => ?_⟩, ?_, fun x c e => ?_, ?_, fun x c e => ?_, fun p hp => ?_, hok, I.len⟩
  · exact keep b o (neL b o e) hb (neC b o e hx) (I.base.keep b o e n hb hx) (I.base.free b o e n hx)
  · obtain ⟨sl, e1⟩ := I.base.slot b o e n hb hx
    obtain ⟨sl', e2⟩ := slot b _ (neL b o e) hb (neC b o e hx) e1 (I.base.free b o e n hx)
    exact ⟨sl', e2⟩
  · obtain ⟨o', e1⟩ := I.base.there b o e hx
    exact free b o' (neC b o e hx) e1 (I.base.free b o e n hx)
  · obtain ⟨o', e1⟩ := I.base.there b o e hx
    exact there b o' (neC b o e hx) e1
  · obtain ⟨m1, e1⟩ := I.base.tbls b ps e
    obtain ⟨m2, e2⟩ := tbls b _ e1
    exact ⟨m1 ++ m2, by rw [e2, Array.append_assoc]⟩
  · obtain ⟨m, hn, hl⟩ := I.loc
    refine ⟨m, ns m hn, fun i x v e1 e2 e3 => ?_⟩
    obtain ⟨u, r, l⟩ := hl i x v e1 e2 e3
    refine ⟨u, r, ?_⟩
    rcases l with l | ⟨k, c, e, z⟩
    · exact .inl l
    · exact .inr ⟨k, c, e, cellK x c e _ z⟩
  · obtain ⟨v, z⟩ := I.cell x c e
    exact ⟨v, cellK x c e v z⟩
  · obtain ⟨m, ⟨o, _, _, ho, _⟩, _⟩ := I.loc
    exact free _ o (fun z => (hch _ z).2.1 rfl) ho I.free
  · obtain ⟨v, o, ho, hd⟩ := I.cell x c e
    exact free c o (fun z => (hch c z).2.2.1 x c e rfl) ho (I.freeC x c e)
  · obtain ⟨e, n, ne, nf, d⟩ := I.pin p hp
    have nch : p.1 ∉ ch := fun z => (hch p.1 z).2.2.2 p hp rfl
    exact ⟨keep p.1 p.2 ne nf nch e n, free p.1 p.2 nch e n, ne, nf, d⟩
theorem Inv.un {t' : Nat} (I : Inv X pins σ H s) (u : Un X.fs [] H H' s.heap h') (hok : HOk X.prog X.w H' h') : Inv X pins σ H' { s with heap := h', toks := t' } := by
  obtain ⟨m, ⟨o, es, ep, ho, r⟩, _⟩ := id I.loc
  obtain ⟨sl, hL⟩ := u.any ho I.free (by simp)
  exact I.step (g' := s.gens) (d' := s.drawn) (ch := []) (fun _ z => nomatch z) (fun b o _ hb _ e n => u.keep b o e n hb (by simp)) (fun b o _ hb _ e n => u.slot b o e n hb (by simp)) (fun b o _ e n => u.free b o e n (by simp)) (fun b o _ e => u.there b o e (by simp)) u.tups u.frzs u.tbls (fun m' hm => by
    obtain ⟨o', es', ep', ho', r'⟩ := hm
    rw [ho] at ho'; cases ho'
    exact ⟨_, es', ep', hL, r'⟩) hok I.bare
theorem Inv.call {g' : Array GenState} {t' : Nat} {d' : Drawn} {ch : List Addr} (I : Inv X pins σ H s) (u : Un (frs X.stack) ch H H' s.heap h') (hok : HOk X.prog X.w H' h') (hg : AllBare g')
    (hch : ∀ b ∈ ch, (b ∈ X.ex ∨ X.s₀.heap.objs.size ≤ b) ∧ b ≠ X.env.locals ∧ (∀ x c, X.env.cells.lookup x = some c → c ≠ b) ∧ ∀ p ∈ X.pn ++ pins, p.1 ≠ b) :
    Inv X pins σ H' { s with heap := h', gens := g', drawn := d', toks := t' } := by
  obtain ⟨m, ⟨o, es, ep, ho, r⟩, _⟩ := id I.loc
  obtain ⟨sl, hL⟩ := u.any ho I.free fun z => (hch _ z).2.1 rfl
  exact I.step (ch := ch) hch (fun b o hL hb hc e n => u.keep b o e n (fun z => (List.mem_cons.mp (I.stkSub b z)).elim hL hb) hc) (fun b o _ _ hc e n => u.any e n hc) (fun b o hc e n => u.free b o e n hc) (fun b o hc e => u.there b o e hc) u.tups u.frzs u.tbls (fun m' hm => by
    obtain ⟨o', es', ep', ho', r'⟩ := hm
    rw [ho] at ho'; cases ho'
    exact ⟨_, es', ep', hL, r'⟩) hok hg
theorem Inv.turned {t' : Nat} {it : Addr} (I : Inv X pins σ H s) (k : ∀ b o, b ≠ it → s.heap.get? b = some o → h'.get? b = some o) (hn : H it = none) (hL : it ≠ X.env.locals)
    (h1 : it ∈ X.ex ∨ X.s₀.heap.objs.size ≤ it) (h2 : ∀ x c, X.env.cells.lookup x = some c → c ≠ it) (h3 : ∀ p ∈ X.pn ++ pins, p.1 ≠ it) : Inv X pins σ H { s with heap := h', toks := t' } := by
  have nit : ∀ b u, H b = some u → b ≠ it := fun b u e z => by rw [z, hn] at e; cases e
  refine I.step (g' := s.gens) (d' := s.drawn) (ch := [it]) (fun b hb => ?_) (fun b o _ _ hc e _ => k b o (fun z => hc (by simp [z])) e) (fun b o _ _ hc e _ => ⟨o.slots, k b o (fun z => hc (by simp [z])) e⟩) (fun _ _ _ _ n => n)
    (fun b o hc e => ⟨o, k b o (fun z => hc (by simp [z])) e⟩) (fun _ _ e => e) (fun _ _ _ e => e) (fun b ps e => ⟨#[], by rw [e]; simp⟩) (fun m hm => ?_) (fun b u e => ?_) I.bare
  · have e : b = it := by simpa using hb
    subst e
    exact ⟨h1, hL, h2, h3⟩
  · obtain ⟨o, es, ep, ho, r⟩ := hm
    exact ⟨o, es, ep, k _ o (Ne.symm hL) ho, r⟩
  · refine (I.hok b u e).stay (fun c v hc q => k c v ?_ q) (fun _ q => q) fun _ _ q => q
    rcases hc with z | z
    · rw [z]; exact nit b u e
    · exact nit c _ z
theorem Inv.tok (I : Inv X pins σ H s) (t : Nat) : Inv X pins σ H { s with toks := t } := I.un (h' := s.heap) (t' := t) Un.refl I.hok
theorem Inv.kept {t' : Nat} (I : Inv X pins σ H s) (k : ∀ b u, s.heap.get? b = some u → h'.get? b = some u) : Inv X pins σ H { s with heap := h', toks := t' } := I.un (Un.kept k) (I.hok.kept k)
theorem Inv.laid {a : Addr} {o : HO} {t' : Nat} (I : Inv X pins σ H s) (k : ∀ b u, s.heap.get? b = some u → h'.get? b = some u) (hp : s.heap.objs.size ≤ a) (new : ObjOk X.prog X.w (upd H a o) h' a o) :
    Inv X pins σ (upd H a o) { s with heap := h', toks := t' } := I.un (Un.laid k hp (I.hok.fresh hp)) (I.hok.laid k hp new)
theorem Inv.write {x e : Addr} {o : HO} {t' : Nat} (I : Inv X pins σ H s) (mu : Mut (H x)) (he : e = x ∨ H e = some (.own x)) (k : ∀ b u, b ≠ e → s.heap.get? b = some u → h'.get? b = some u) (heo : ∃ u, h'.get? e = some u)
    (new : ObjOk X.prog X.w (upd H x o) h' x o) : Inv X pins σ (upd H x o) { s with heap := h', toks := t' } := I.un (Un.write mu he k heo) (I.hok.write mu he k heo new)
theorem Inv.pins_of {pins' : List (Addr × Obj)} (I : Inv X pins σ H s) (h : ∀ p ∈ pins', s.heap.get? p.1 = some p.2 ∧ H p.1 = none ∧ p.1 ≠ X.env.locals ∧ p.1 ∉ X.fs ∧ ∀ v, p.2.data ≠ .cell v) : Inv X pins' σ H s :=
  ⟨I.ok, I.os, I.bare, I.base, I.loc, I.cell, I.free, I.freeC, fun p hp => (List.mem_append.mp hp).elim (fun z => I.pin p (List.mem_append_left _ z)) (h p), I.hok, I.len⟩
theorem nodup_ix {N : List Str} (hN : N.Nodup) {i j : Nat} {x : Str} (a : N[i]? = some x) (b : N[j]? = some x) : i = j := by
  obtain ⟨h1, e1⟩ := List.getElem?_eq_some_iff.mp a
  obtain ⟨h2, e2⟩ := List.getElem?_eq_some_iff.mp b
  exact (List.getElem_inj hN).mp (e1.trans e2.symm)
theorem store_ok2 {M : Model} {A : Around} {E : Value → Shared → Prop} {i : Nat} {x : Str} {v : V} {u : Value} {Q : Unit → Shared → Prop} (I : Inv X pins σ H s) (hN : X.N.Nodup) (hi : X.N[i]? = some x) (hx : Loc X.env.scope x) (r : RelV v u)
    (h : ∀ s', Inv X pins (σ.set i (some v)) H s' → (∃ a, Heap.SameBut a s.heap s'.heap ∧ (a = X.env.locals ∨ X.env.cells.lookup x = some a)) → Q () s') (hf : X.fn x = true ∨ X.env.scope.names.lookup x = some .local := by first | exact .inl rfl | exact .inr rfl | assumption) : wpAny M A (storeName X.env x u) Q E s := by
  obtain ⟨m, hn, hl⟩ := id I.loc
  have hcls : (X.env.scope.kind == .class || (X.env.scope.kind == .module && X.env.locals != X.env.globals)) = false := by rw [I.ok.kind]; rfl
  have hiσ : i < σ.length := by rw [I.len]; exact (List.getElem?_eq_some_iff.mp hi).1
  have cne := I.cne
  have tracked : ∀ {a : Addr} {h' : Heap}, (∃ o, s.heap.get? a = some o ∧ H a = none) → Heap.SameBut a s.heap h' → HOk X.prog X.w H h' := fun {a h'} ha hs b ob e => by
    obtain ⟨_, _, hfree⟩ := ha
    refine (I.hok b ob e).stay (fun c w' hc q => (hs.2 c ?_).trans q) (fun _ q => q) fun _ _ q => q
    rintro rfl
    rcases hc with rfl | hc
    · rw [hfree] at e; cases e
    · rw [hfree] at hc; cases hc
  rcases hx with hk | hk
  · refine wpAny_storeName_local hk hn (fun h' hn' hs => ?_) hcls
    obtain ⟨oL, _, _, hoL, _⟩ := id hn
    refine h _ ⟨I.ok, I.os, I.bare, ⟨fun b o e n hb hx => ?_, fun b o e n hb hx => ?_, I.base.free, fun b o e hx => ?_, I.base.tups, I.base.frzs, I.base.tbls⟩, ⟨_, hn', fun j y v' e1 e2 e3 => ?_⟩, fun y c e => ?_, I.free, I.freeC, fun p hp => ?_, tracked ⟨oL, hoL, I.free⟩ hs, by simpa using I.len⟩ ⟨_, hs, .inl rfl⟩
    · exact (hs.2 b (Nat.ne_of_lt (Nat.lt_of_lt_of_le (Heap.lt_size e) I.ok.above))).trans (I.base.keep b o e n hb hx)
    · obtain ⟨sl, e1⟩ := I.base.slot b o e n hb hx
      exact ⟨sl, (hs.2 b (Nat.ne_of_lt (Nat.lt_of_lt_of_le (Heap.lt_size e) I.ok.above))).trans e1⟩
    · obtain ⟨o', e1⟩ := I.base.there b o e hx
      exact ⟨o', (hs.2 b (Nat.ne_of_lt (Nat.lt_of_lt_of_le (Heap.lt_size e) I.ok.above))).trans e1⟩
    · by_cases hj : j = i
      · subst hj
        rw [hi] at e1; cases e1
        rw [List.getElem?_set_self hiσ] at e2
        cases e2
        exact ⟨u, r, .inl ⟨hk, by simp⟩⟩
      · rw [List.getElem?_set_ne (Ne.symm hj)] at e2
        obtain ⟨u', r', q⟩ := hl j y v' e1 e2 e3
        refine ⟨u', r', ?_⟩
        rcases q with ⟨k, e⟩ | ⟨k, c, e, z⟩
        · refine .inl ⟨k, ?_⟩
          have : y ≠ x := fun e => hj (nodup_ix hN e1 (e ▸ hi))
          simp [this, e]
        · exact .inr ⟨k, c, e, z.sameBut hs (cne y c e)⟩
    · obtain ⟨w', z⟩ := I.cell y c e
      exact ⟨w', z.sameBut hs (cne y c e)⟩
    · obtain ⟨e, n, ne, nf, d⟩ := I.pin p hp
      exact ⟨(hs.2 p.1 ne).trans e, n, ne, nf, d⟩
  · have hfn : X.fn x = true := by
      rcases hf with z | z
      · exact z
      · rw [z] at hk; cases hk
    obtain ⟨c, hc⟩ := I.ok.has x (.inl hk)
    obtain ⟨w', z⟩ := I.cell x c hc
    refine wpAny_storeName_cell I.ok.kind hk hc z (fun h' hc' hs => ?_)
    obtain ⟨oc, hoc, hocd⟩ := id z
    refine h { s with heap := h' } ⟨I.ok, I.os, I.bare, ⟨fun b o e n hb hx => ?_, fun b o e n hb hx => ?_, I.base.free, fun b o e hx => ?_, I.base.tups, I.base.frzs, I.base.tbls⟩, ⟨m, hn.sameBut hs (Ne.symm (cne x c hc)), fun j y v' e1 e2 e3 => ?_⟩, fun y c' e => ?_, I.free, I.freeC, fun p hp => ?_, tracked ⟨oc, hoc, I.freeC x c hc⟩ hs, by simpa using I.len⟩ ⟨c, hs, .inr hc⟩
    · exact (hs.2 b (Nat.ne_of_lt (Nat.lt_of_lt_of_le (Heap.lt_size e) (I.ok.cab x c hfn hc)))).trans (I.base.keep b o e n hb hx)
    · obtain ⟨sl, e1⟩ := I.base.slot b o e n hb hx
      exact ⟨sl, (hs.2 b (Nat.ne_of_lt (Nat.lt_of_lt_of_le (Heap.lt_size e) (I.ok.cab x c hfn hc)))).trans e1⟩
    · obtain ⟨o', e1⟩ := I.base.there b o e hx
      exact ⟨o', (hs.2 b (Nat.ne_of_lt (Nat.lt_of_lt_of_le (Heap.lt_size e) (I.ok.cab x c hfn hc)))).trans e1⟩
    · by_cases hj : j = i
      · subst hj
        rw [hi] at e1; cases e1
        rw [List.getElem?_set_self hiσ] at e2
        cases e2
        exact ⟨u, r, .inr ⟨.inl hk, c, hc, hc'⟩⟩
      · rw [List.getElem?_set_ne (Ne.symm hj)] at e2
        obtain ⟨u', r', q⟩ := hl j y v' e1 e2 e3
        refine ⟨u', r', ?_⟩
        rcases q with q | ⟨k, c', e, z'⟩
        · exact .inl q
        · refine .inr ⟨k, c', e, z'.sameBut hs ?_⟩
          rintro rfl
          exact hj (nodup_ix hN e1 (I.ok.inj _ _ _ e hc ▸ hi))
    · by_cases hcc : c' = c
      · subst hcc; exact ⟨_, hc'⟩
      · obtain ⟨w2, z2⟩ := I.cell y c' e
        exact ⟨w2, z2.sameBut hs hcc⟩
    · obtain ⟨e, n, ne, nf, d⟩ := I.pin p hp
      refine ⟨(hs.2 p.1 ?_).trans e, n, ne, nf, d⟩
      intro q
      rw [q, hoc] at e
      have q' : oc = p.2 := Option.some.inj e
      exact d w' (by rw [← q']; exact hocd)
theorem store_ok {M : Model} {A : Around} {E : Value → Shared → Prop} {i : Nat} {x : Str} {v : V} {u : Value} {Q : Unit → Shared → Prop} (I : Inv X pins σ H s) (hN : X.N.Nodup) (hi : X.N[i]? = some x) (hx : Loc X.env.scope x) (r : RelV v u)
    (h : ∀ s', Inv X pins (σ.set i (some v)) H s' → Q () s') (hf : X.fn x = true ∨ X.env.scope.names.lookup x = some .local := by first | exact .inl rfl | exact .inr rfl | assumption) : wpAny M A (storeName X.env x u) Q E s :=
  store_ok2 I hN hi hx r (fun s' I' _ => h s' I') hf
theorem Inv.call' {s' : Shared} {ch : List Addr} (I : Inv X pins σ H s) (ho : s'.os = s.os) (u : Un (frs X.stack) ch H H' s.heap s'.heap) (hok : HOk X.prog X.w H' s'.heap) (hg : AllBare s'.gens)
    (hch : ∀ b ∈ ch, (b ∈ X.ex ∨ X.s₀.heap.objs.size ≤ b) ∧ b ≠ X.env.locals ∧ (∀ x c, X.env.cells.lookup x = some c → c ≠ b) ∧ ∀ p ∈ X.pn ++ pins, p.1 ≠ b) : Inv X pins σ H' s' := by
  obtain ⟨h', g', d', t', o'⟩ := s'
  have e : o' = s.os := ho
  subst e
  exact I.call (g' := g') (t' := t') (d' := d') u hok hg hch
end
abbrev XK := Value → Option Addr → Hp → Prop
abbrev St := List (Option V)
abbrev VK := V → Hp → Prop
abbrev TE := St → Hp → VK → Prop
abbrev TT := St → Hp → (Bool → Hp → Prop) → Prop
abbrev TA := St → Hp → (List V → Hp → Prop) → Prop
structure Ends where
  nx : St → Hp → Prop
  rt : VK
  bk : St → Hp → Prop := fun _ _ => False
  ct : St → Hp → Prop := fun _ _ => False
abbrev TS := Ends → St → Hp → Prop
def EP (X : Cx) (pins : List (Addr × Obj)) (σ : St) (Q : VK) (u : Value) (s' : Shared) : Prop := ∃ v H', Inv X pins σ H' s' ∧ RelV v u ∧ Q v H'
def TP (X : Cx) (pins : List (Addr × Obj)) (σ : St) (Q : Bool → Hp → Prop) (b : Bool) (s' : Shared) : Prop := ∃ H', Inv X pins σ H' s' ∧ Q b H'
def AP (X : Cx) (pins : List (Addr × Obj)) (σ : St) (Q : List V → Hp → Prop) (us : List Value) (s' : Shared) : Prop := ∃ vs H', Inv X pins σ H' s' ∧ Vals vs us ∧ Q vs H'
def SP (X : Cx) (pins : List (Addr × Obj)) (D : Ends) (f : Flow) (s' : Shared) : Prop :=
  match f with
  | .next => ∃ σ' H', Inv X pins σ' H' s' ∧ D.nx σ' H'
  | .brk => ∃ σ' H', Inv X pins σ' H' s' ∧ D.bk σ' H'
  | .cont => ∃ σ' H', Inv X pins σ' H' s' ∧ D.ct σ' H'
  | .ret u => ∃ v σ' H', Inv X pins σ' H' s' ∧ RelV v u ∧ D.rt v H'
def PE (X : Cx) (e : Expr) (t : TE) : Prop :=
  ∀ (pins : List (Addr × Obj)) (s : Shared) (σ : St) (H : Hp) (Q : VK), Inv X pins σ H s → t σ H Q → wpAny (model X.prog X.w) X.A (eval e X.env) (EP X pins σ Q) X.xe s
def PT (X : Cx) (e : Expr) (t : TT) : Prop :=
  ∀ (pins : List (Addr × Obj)) (s : Shared) (σ : St) (H : Hp) (Q : Bool → Hp → Prop), Inv X pins σ H s → t σ H Q → wpAny (model X.prog X.w) X.A (isTrue e X.env (eval e X.env)) (TP X pins σ Q) X.xe s
def PW (X : Cx) (e : Expr) (t : TT) : Prop :=
  ∀ (whole : Sem Value) (pins : List (Addr × Obj)) (s : Shared) (σ : St) (H : Hp) (Q : Bool → Hp → Prop), Inv X pins σ H s → t σ H Q → wpAny (model X.prog X.w) X.A (isTrue e X.env whole) (TP X pins σ Q) X.xe s
theorem PW.pt {X : Cx} {e : Expr} {t : TT} (h : PW X e t) : PT X e t := h _
def PA (X : Cx) (es : List Expr) (t : TA) : Prop :=
  ∀ (pos : Pos) (pins : List (Addr × Obj)) (s : Shared) (σ : St) (H : Hp) (Q : List V → Hp → Prop), Inv X pins σ H s → t σ H Q → wpAny (model X.prog X.w) X.A (spliced (backTo pos (starEach es X.env))) (AP X pins σ Q) X.xe s
def PS (X : Cx) (st : Stmt) (t : TS) : Prop :=
  ∀ (pins : List (Addr × Obj)) (s : Shared) (σ : St) (H : Hp) (D : Ends), Inv X pins σ H s → t D σ H → wpAny (model X.prog X.w) X.A (exec st X.env) (SP X pins D) X.xe s
def PSs (X : Cx) (st : List Stmt) (t : TS) : Prop :=
  ∀ (pins : List (Addr × Obj)) (s : Shared) (σ : St) (H : Hp) (D : Ends), Inv X pins σ H s → t D σ H → wpAny (model X.prog X.w) X.A (execs st X.env) (SP X pins D) X.xe s
theorem thn {α : Type} {t : Sem α} {Q Q' : α → Shared → Prop} {M : Model} {A : Around} {E : Value → Shared → Prop} {s : Shared} (h : wpAny M A t Q E s) (hQ : ∀ a s, Q a s → Q' a s) : wpAny M A t Q' E s := wpAny_mono h hQ fun _ _ x => x
end L2
namespace L2
open PySem PySem.Spec PyProof.Rows
section
variable {X : Cx}
def tVar (i : Nat) : TE := fun σ H Q => ∃ v, σ[i]? = some (some v) ∧ Q v H
def tC (v : V) : TE := fun _ H Q => Q v H
theorem pe_var {i : Nat} {x : Str} {pos : Pos} (hN : X.N[i]? = some x) (hv : Vis X.env.scope x) (hd : (x == ("__debug__" : Str)) = false := by decide) (hcd : (x == ("__classdict__" : Str)) = false := by decide) : PE X (.Name x pos) (tVar i) := by
  intro pins s σ H Q I h
  obtain ⟨v, e, h⟩ := h
  obtain ⟨m, hn, hl⟩ := I.loc
  obtain ⟨u, r, l⟩ := hl i x v hN e hv
  have fin : EP X pins σ Q u s := ⟨v, H, I, r, h⟩
  rcases l with ⟨hk, hm⟩ | ⟨hk, c, hc, hcell⟩
  · exact wpAny_Name (wpAny_loadName_local I.ok.kind hk hn hm fin) hd
  · rcases hk with hk | hk
    · exact wpAny_Name (wpAny_loadName_cell I.ok.kind hk hc hcell fin) hd
    · exact wpAny_Name (wpAny_loadName_free I.ok.kind hk hc hcell fin hcd) hd
theorem pe_int {i j pos} : PE X (.Constant (.int i) j pos) (tC (.int i)) := fun _ _ _ H _ I h => wpAny_Constant_int ⟨.int i, H, I.tok _, ⟨_, rfl⟩, h⟩
theorem pe_bl {b j pos} : PE X (.Constant (.bool b) j pos) (tC (.bl b)) := fun _ _ _ H _ I h => Constant_bool ⟨.bl b, H, I, rfl, h⟩
theorem pe_non {j pos} : PE X (.Constant .none j pos) (tC .non) := fun _ _ _ H _ I h => Constant_none ⟨.non, H, I, rfl, h⟩
theorem pe_str {x j pos} : PE X (.Constant (.str x) j pos) (tC (.str x)) := fun _ _ _ H _ I h => Calls.Constant_str ⟨.str x, H, I.tok _, ⟨_, rfl⟩, h⟩
def Gl (X : Cx) (x : Str) : Prop := X.env.kindOf x = some .globalImplicit
theorem ld_glob {E : Value → Shared → Prop} {pins : List (Addr × Obj)} {s : Shared} {σ : St} {H : Hp} {x : Str} {u : Value} {pos : Pos} {Q : Value → Shared → Prop} (I : Inv X pins σ H s) (hg : Gl X x) (hm : X.mg x = some u) (h : Q u s)
    (hd : (x == ("__debug__" : Str)) = false := by decide) : wpAny (model X.prog X.w) X.A (eval (.Name x pos) X.env) Q E s :=
  Calls.Name_function_global I.ok.kind hg (Calls.loadGlobal_global (by rw [I.ok.glob]; exact I.mod.glob.keeps I.bk) hm h) hd
theorem ld_blt {E : Value → Shared → Prop} {pins : List (Addr × Obj)} {s : Shared} {σ : St} {H : Hp} {x : Str} {u : Value} {pos : Pos} {Q : Value → Shared → Prop} (I : Inv X pins σ H s) (hg : Gl X x) (hm : X.mg x = none) (hv : bootBuiltins x = some u) (h : Q u s)
    (hn : x ≠ "__name__" := by decide) (hd : (x == ("__debug__" : Str)) = false := by decide) : wpAny (model X.prog X.w) X.A (eval (.Name x pos) X.env) Q E s := by
  obtain ⟨mb, h1, h2⟩ := I.mod.blt
  exact Calls.Name_function_global I.ok.kind hg (Calls.loadGlobal_builtin (by rw [I.ok.glob]; exact I.mod.glob.keeps I.bk) hm (by rw [I.ok.blt]; exact h1.keeps I.bk) ((h2 x hn).trans hv) h) hd
theorem pe_glob {x : Str} {v : V} {u : Value} {pos : Pos} (hg : Gl X x) (hm : X.mg x = some u) (r : RelV v u) (hd : (x == ("__debug__" : Str)) = false := by decide) : PE X (.Name x pos) (tC v) :=
  fun _ _ _ H _ I h => ld_glob I hg hm ⟨v, H, I, r, h⟩ hd
theorem pe_bltn {x : Str} {v : V} {u : Value} {pos : Pos} (hg : Gl X x) (hm : X.mg x = none) (hv : bootBuiltins x = some u) (r : RelV v u) (hn : x ≠ "__name__" := by decide) (hd : (x == ("__debug__" : Str)) = false := by decide) : PE X (.Name x pos) (tC v) :=
  fun _ _ _ H _ I h => ld_blt I hg hm hv ⟨v, H, I, r, h⟩ hn hd
variable {a b : Expr} {ta tb : TE} {pos : Pos}
def PC (X : Cx) (op : CmpOp) (a b : Expr) (t : TE) : Prop :=
  ∀ (pins : List (Addr × Obj)) (s : Shared) (σ : St) (H : Hp) (Q : VK), Inv X pins σ H s → t σ H Q →
    wpAny (model X.prog X.w) X.A (eval a X.env) (fun v s₁ => wpAny (model X.prog X.w) X.A (eval b X.env) (fun u s₂ => wpAny (model X.prog X.w) X.A (compareOp op v u) (EP X pins σ Q) X.xe s₂) X.xe s₁) X.xe s
theorem nobehind (b : Expr) {op : CmpOp} (h : op ≠ .In) (h2 : op ≠ .NotIn) : behindInMarks op b = false := by
  have e1 : (op == CmpOp.In) = false := by cases op <;> first | rfl | exact absurd rfl h
  have e2 : (op == CmpOp.NotIn) = false := by cases op <;> first | rfl | exact absurd rfl h2
  cases b <;> simp [behindInMarks, e1, e2]
def tB (t : TE) : TT := fun σ H Q => t σ H fun x H1 => ∃ c, x = .bl c ∧ Q c H1
theorem pt_cmp {op : CmpOp} {t : TE} (h : PC X op a b t) (h1 : behindInMarks op b = false := by first | exact nobehind _ (by decide) (by decide) | rfl) : PT X (.Compare a [op] [b] pos) (tB t) := by
  intro pins s σ H Q I hw
  refine wpAny_isTrue_Compare1 (thn (h pins s σ H _ I hw) fun v s1 h1 => thn h1 fun u s2 h2 => thn h2 fun c s3 ⟨x, H1, I1, r1, q1⟩ => ?_) h1
  obtain ⟨d, rfl, q⟩ := q1
  cases r1
  exact wpAny_truthy_bool ⟨H1, I1, q⟩
theorem pt_val {e : Expr} {t : TE} (h : PE X e t) (he : ∀ whole, isTrue e X.env whole = (do let v ← whole; standAt e.pos; holding [v] (truthy v)) := by intro _; rfl) : PT X e (tB t) := by
  intro pins s σ H Q I hw
  refine isTrue_plain (thn (h pins s σ H _ I hw) fun v s1 ⟨x, H1, I1, r1, q1⟩ => ?_) (he _)
  obtain ⟨d, rfl, q⟩ := q1
  cases r1
  exact wpAny_truthy_bool ⟨H1, I1, q⟩
variable {tA tB' : TT} {rest : List Expr}
def tAnd (t u : TT) : TT := fun σ H Q => t σ H fun c H1 => if c = true then u σ H1 Q else Q false H1
def tOr (t u : TT) : TT := fun σ H Q => t σ H fun c H1 => if c = true then Q true H1 else u σ H1 Q
def tNot (t : TT) : TT := fun σ H Q => t σ H fun c H1 => Q (!c) H1
theorem pw_and1 (ha : PT X a tA) : PW X (.BoolOp .And [a] pos) tA := by
  intro wh pins s σ H Q I h
  refine isTrue_and (thn (ha pins s σ H Q I h) fun c s1 e => ?_)
  cases c with
  | true => exact isTrue_and_nil e
  | false => exact e
theorem pw_or1 (ha : PT X a tA) : PW X (.BoolOp .Or [a] pos) tA := by
  intro wh pins s σ H Q I h
  refine isTrue_or (thn (ha pins s σ H Q I h) fun c s1 e => ?_)
  cases c with
  | false => exact isTrue_or_nil e
  | true => exact e
theorem pw_and (ha : PT X a tA) (hb : PW X (.BoolOp .And (b :: rest) pos) tB') : PW X (.BoolOp .And (a :: b :: rest) pos) (tAnd tA tB') := by
  intro wh pins s σ H Q I h
  refine isTrue_and (thn (ha pins s σ H _ I h) fun c s1 ⟨H1, I1, q1⟩ => ?_)
  cases c with
  | true => exact hb wh pins s1 σ H1 Q I1 q1
  | false => exact ⟨H1, I1, q1⟩
theorem pw_or (ha : PT X a tA) (hb : PW X (.BoolOp .Or (b :: rest) pos) tB') : PW X (.BoolOp .Or (a :: b :: rest) pos) (tOr tA tB') := by
  intro wh pins s σ H Q I h
  refine isTrue_or (thn (ha pins s σ H _ I h) fun c s1 ⟨H1, I1, q1⟩ => ?_)
  cases c with
  | true => exact ⟨H1, I1, q1⟩
  | false => exact hb wh pins s1 σ H1 Q I1 q1
theorem pt_not (ha : PT X a tA) : PT X (.UnaryOp .Not a pos) (tNot tA) := by
  intro pins s σ H Q I h
  exact isTrue_not (ha pins s σ H (fun c H1 => Q (!c) H1) I h)
def tAndV (ta tb : TE) : TE := fun σ H Q => ta σ H fun x H1 => ∃ c, x = .bl c ∧ if c = true then tb σ H1 Q else Q (.bl false) H1
theorem pe_one {op} {t : TE} (h : PE X a t) : PE X (.BoolOp op [a] pos) t := fun pins s σ H Q I hw => BoolOp_one (h pins s σ H Q I hw)
theorem pe_and (ha : PE X a ta) (hb : PE X (.BoolOp .And (b :: rest) pos) tb) : PE X (.BoolOp .And (a :: b :: rest) pos) (tAndV ta tb) := by
  intro pins s σ H Q I h
  refine BoolOp_and (thn (ha pins s σ H _ I h) fun v s1 ⟨x, H1, I1, r1, q1⟩ => ?_)
  obtain ⟨c, rfl, q1⟩ := q1
  cases r1
  refine wpAny_truthy_bool ?_
  cases c with
  | true => exact hb pins s1 σ H1 Q I1 q1
  | false => exact ⟨.bl false, H1, I1, rfl, q1⟩
end
end L2
namespace L2
open PySem PySem.Spec PyProof.Rows
def SqL (K : PySem.W.Frag) (H : Hp) (a : Addr) (xs : List V) : Prop :=
  Rd H a (.lst xs) ∨
    ∃ (o : Obj) (its : Array Value) (n : Nat), K.lookup a = some o ∧ o.cls = .type "list" ∧ o.dict = none ∧ o.data = .seq its n ∧ its.size ≤ sizeLine ∧ Vals xs its.toList
def SqT (K : PySem.W.Frag) (H : Hp) (a : Addr) (xs : List V) : Prop :=
  Rd H a (.tup xs) ∨
    ∃ (o : Obj) (its : Array Value) (n : Nat), K.lookup a = some o ∧ o.cls = .type "tuple" ∧ o.data = .seq its n ∧ its.size ≤ sizeLine ∧ Vals xs its.toList
def absV : Value → Option V
  | .none => some .non
  | .bool b => some (.bl b)
  | .int i _ => some (.int i)
  | .str x _ => some (.str x)
  | .bytes b _ => some (.byt b)
  | .float b _ => some (.flt b)
  | .ref a => some (.ref a)
  | .type n => some (.ty n)
  | _ => none
theorem RelV.abs {x : V} {u : Value} (r : RelV x u) : absV u = some x := by
  cases x with
  | non => cases r; rfl
  | bl _ => cases r; rfl
  | int _ => obtain ⟨t, rfl⟩ := r; rfl
  | str _ => obtain ⟨t, rfl⟩ := r; rfl
  | byt _ => obtain ⟨t, rfl⟩ := r; rfl
  | flt _ => obtain ⟨t, rfl⟩ := r; rfl
  | ref _ => cases r; rfl
  | ty _ => cases r; rfl
theorem RelV.inj {x y : V} {u : Value} (r : RelV x u) (q : RelV y u) : x = y := Option.some.inj (r.abs.symm.trans q.abs)
theorem Vals.inj : ∀ {xs ys : List V} {us : List Value}, Vals xs us → Vals ys us → xs = ys
  | _, _, _, .nil, .nil => rfl
  | _, _, _, .cons r t, .cons r' t' => by rw [r.inj r', Vals.inj t t']
section
variable {X : Cx} {pins : List (Addr × Obj)} {σ : St} {H : Hp} {s : Shared} {a : Addr} {xs ys : List V}
theorem SqL.of {K : PySem.W.Frag} (h : H a = some (.lst xs)) : SqL K H a xs := .inl (.inl h)
theorem SqT.of {K : PySem.W.Frag} (h : H a = some (.tup xs)) : SqT K H a xs := .inl (.inl h)
theorem Inv.list (I : Inv X pins σ H s) (h : SqL X.K H a xs) : ∃ its : List Value, Vals xs its ∧ PlainL s.heap a its.toArray ∧ xs.length ≤ sizeLine := by
  rcases h with h | ⟨o, its, n, hk, hc, hd, hs, hz, r⟩
  · obtain ⟨z, its, n, r, e⟩ := h.ok I.hok
    exact ⟨its, r, ⟨_, n, e, rfl, rfl, rfl⟩, z⟩
  · refine ⟨its.toList, r, ⟨o, n, I.kIn a o hk, hc, hd, by simpa using hs⟩, ?_⟩
    have e := r.length
    simp only [Array.length_toList] at e
    omega
theorem Inv.tuple (I : Inv X pins σ H s) (h : SqT X.K H a xs) : ∃ its : List Value, Vals xs its ∧ IsTup s.heap a its.toArray ∧ xs.length ≤ sizeLine := by
  rcases h with h | ⟨o, its, n, hk, hc, hs, hz, r⟩
  · obtain ⟨z, its, r, p⟩ := h.ok I.hok
    exact ⟨its, r, p, z⟩
  · refine ⟨its.toList, r, ⟨o, I.kIn a o hk, hc, n, by simpa using hs⟩, ?_⟩
    have e := r.length
    simp only [Array.length_toList] at e
    omega
theorem Inv.list_inj (I : Inv X pins σ H s) (h : SqL X.K H a xs) (h' : SqL X.K H a ys) : xs = ys := by
  obtain ⟨its, r, ⟨o, n, e, _, _, d⟩, _⟩ := I.list h
  obtain ⟨its', r', ⟨o', n', e', _, _, d'⟩, _⟩ := I.list h'
  rw [e] at e'; cases e'
  rw [d] at d'
  injection d' with d1 _
  have : its = its' := by simpa using congrArg Array.toList d1
  subst this
  exact r.inj r'
end
abbrev Cx.wish (X : Cx) (E : Value → Shared → Prop) : Cx := { X with xe := E }
abbrev Cx.nox (X : Cx) : Cx := X.wish fun _ _ => False
theorem Cx.Ok.wish {X : Cx} (ok : X.Ok) (E : Value → Shared → Prop) : (X.wish E).Ok :=
  ⟨ok.mod, ok.kind, ok.glob, ok.blt, ok.above, ok.inj, ok.has, ok.cab, ok.hd, ok.frames, ok.stk, ok.exf, ok.bs, ok.bsz, ok.noex, ok.exfs, ok.funs, ok.frf⟩
theorem Cx.Ok.unwish {X : Cx} {E : Value → Shared → Prop} (ok : (X.wish E).Ok) : X.Ok :=
  ⟨ok.mod, ok.kind, ok.glob, ok.blt, ok.above, ok.inj, ok.has, ok.cab, ok.hd, ok.frames, ok.stk, ok.exf, ok.bs, ok.bsz, ok.noex, ok.exfs, ok.funs, ok.frf⟩
section
variable {X : Cx} {pins : List (Addr × Obj)} {σ : St} {H : Hp} {s : Shared} {E : Value → Shared → Prop}
theorem Inv.wish (I : Inv X pins σ H s) (E : Value → Shared → Prop) : Inv (X.wish E) pins σ H s := ⟨I.ok.wish E, I.os, I.bare, I.base, I.loc, I.cell, I.free, I.freeC, I.pin, I.hok, I.len⟩
theorem Inv.unwish (I : Inv (X.wish E) pins σ H s) : Inv X pins σ H s := ⟨I.ok.unwish, I.os, I.bare, I.base, I.loc, I.cell, I.free, I.freeC, I.pin, I.hok, I.len⟩
theorem SP.unwish {D : Ends} {f : Flow} {s' : Shared} (h : SP (X.wish E) pins D f s') : SP X pins D f s' := by
  cases f with
  | next => obtain ⟨σ', H', I, q⟩ := h; exact ⟨σ', H', I.unwish, q⟩
  | brk => obtain ⟨σ', H', I, q⟩ := h; exact ⟨σ', H', I.unwish, q⟩
  | cont => obtain ⟨σ', H', I, q⟩ := h; exact ⟨σ', H', I.unwish, q⟩
  | ret u => obtain ⟨v, σ', H', I, r, q⟩ := h; exact ⟨v, σ', H', I.unwish, r, q⟩
theorem PE.nox {e : Expr} {t : TE} (h : PE X.nox e t) : PE X e t := fun pins s σ H Q I hw =>
  wpAny_mono (h pins s σ H Q (I.wish _) hw) (fun _ _ ⟨v, H', I', r, q⟩ => ⟨v, H', I'.unwish, r, q⟩) fun _ _ z => False.elim z
theorem PT.nox {e : Expr} {t : TT} (h : PT X.nox e t) : PT X e t := fun pins s σ H Q I hw =>
  wpAny_mono (h pins s σ H Q (I.wish _) hw) (fun _ _ ⟨H', I', q⟩ => ⟨H', I'.unwish, q⟩) fun _ _ z => False.elim z
theorem PSs.nox {st : List Stmt} {t : TS} (h : PSs X.nox st t) : PSs X st t := fun pins s σ H D I hw =>
  wpAny_mono (h pins s σ H D (I.wish _) hw) (fun _ _ q => q.unwish) fun _ _ z => False.elim z
end
section
variable {X : Cx} {st : Stmt} {rest : List Stmt} {t u : TS} {e : Expr} {te : TE} {pos : Pos}
def tNext : TS := fun D σ H => D.nx σ H
def tSeq (t u : TS) : TS := fun D σ H => t { D with nx := u D } σ H
theorem pss_nil : PSs X [] tNext := fun _ _ σ H _ I h => wpAny_execs_nil ⟨σ, H, I, h⟩
theorem pss_cons (h1 : PS X st t) (h2 : PSs X rest u) : PSs X (st :: rest) (tSeq t u) := by
  intro pins s σ H D I h
  refine wpAny_execs_cons (thn (h1 pins s σ H { D with nx := u D } I h) fun f s1 q => ?_)
  cases f with
  | next =>
    obtain ⟨σ', H', I', q⟩ := q
    exact h2 pins s1 σ' H' D I' q
  | ret v => exact q
  | brk => exact q
  | cont => exact q
theorem pss_one (h1 : PS X st t) : PSs X [st] t := by
  intro pins s σ H D I h
  refine wpAny_execs_cons (thn (h1 pins s σ H D I h) fun f s1 q => ?_)
  cases f with
  | next => exact wpAny_execs_nil q
  | ret v => exact q
  | brk => exact q
  | cont => exact q
theorem Inv.quiet {pins : List (Addr × Obj)} {σ : St} {H : Hp} {s : Shared} (I : Inv X pins σ H s) : interactive X.env = false := by simp [interactive, I.ok.kind]
def tDrop (te : TE) : TS := fun D σ H => te σ H fun _ H1 => D.nx σ H1
theorem ps_expr (he : PE X e te) (hs : swapsWith e none pos.line X.env = pure false := by rfl) : PS X (.Expr e pos) (tDrop te) := by
  intro pins s σ H D I h
  exact wpAny_Expr_any (thn (he pins s σ H _ I h) fun v s1 ⟨x, H1, I1, r1, q1⟩ => ⟨σ, H1, I1, q1⟩) I.quiet hs
def tRet (te : TE) : TS := fun D σ H => te σ H D.rt
theorem ps_ret (he : PE X e te) : PS X (.Return (some e) pos) (tRet te) := by
  intro pins s σ H D I h
  exact wpAny_Return_some (thn (he pins s σ H _ I h) fun v s1 ⟨x, H1, I1, r1, q1⟩ => ⟨x, σ, H1, I1, r1, q1⟩)
def tIfS (c : TT) (t u : TS) : TS := fun D σ H => c σ H fun b H1 => if b = true then t D σ H1 else u D σ H1
theorem ps_if {c : Expr} {a b : List Stmt} {tc : TT} (hc : PT X c tc) (ha : PSs X a t) (hb : PSs X b u) : PS X (.If c a b pos) (tIfS tc t u) := by
  intro pins s σ H D I h
  refine wpAny_If (thn (hc pins s σ H _ I h) fun d s1 ⟨H1, I1, q1⟩ => ?_)
  cases d with
  | true => exact ha pins s1 σ H1 D I1 q1
  | false => exact hb pins s1 σ H1 D I1 q1
def tNever : TS := fun _ _ _ => False
theorem pss_never {sts : List Stmt} : PSs X sts tNever := fun _ _ _ _ _ _ h => h.elim
end
abbrev TG := V → St → Hp → (St → Hp → Prop) → Prop
abbrev TGs := List V → St → Hp → (St → Hp → Prop) → Prop
def PG (X : Cx) (target : Expr) (t : TG) : Prop :=
  ∀ (pins : List (Addr × Obj)) (s : Shared) (σ : St) (H : Hp) (v : V) (u : Value) (Q : St → Hp → Prop), Inv X pins σ H s → RelV v u → t v σ H Q →
    wpAny (model X.prog X.w) X.A (assign target X.env u) (fun _ s' => ∃ σ' H', Inv X pins σ' H' s' ∧ Q σ' H') X.xe s
def PGs (X : Cx) (ts : List Expr) (t : TGs) : Prop :=
  ∀ (pins : List (Addr × Obj)) (s : Shared) (σ : St) (H : Hp) (vs : List V) (us : List Value) (Q : St → Hp → Prop), Inv X pins σ H s → Vals vs us → t vs σ H Q →
    wpAny (model X.prog X.w) X.A (assignInOrder ((assignEach ts X.env).map (·.2)) us) (fun _ s' => ∃ σ' H', Inv X pins σ' H' s' ∧ Q σ' H') X.xe s
abbrev TSet := V → V → V → Hp → (Hp → Prop) → Prop
def PSet (X : Cx) (t : TSet) : Prop :=
  ∀ (pins : List (Addr × Obj)) (s : Shared) (σ : St) (H : Hp) (o i v : V) (ov iv u : Value) (Q : Hp → Prop), Inv X pins σ H s → RelV o ov → RelV i iv → RelV v u → t o i v H Q →
    wpAny (model X.prog X.w) X.A (setItem ov iv u) (fun _ s' => ∃ H', Inv X pins σ H' s' ∧ Q H') X.xe s
section
variable {X : Cx} {pos : Pos}
def gName (i : Nat) : TG := fun v σ H Q => Q (σ.set i (some v)) H
theorem pg_name {i : Nat} {x : Str} (hN : X.N.Nodup) (hi : X.N[i]? = some x) (hx : Loc X.env.scope x) (hf : X.fn x = true ∨ X.env.scope.names.lookup x = some .local := by first | exact .inl rfl | exact .inr rfl | assumption) : PG X (.Name x pos) (gName i) := by
  intro pins s σ H v u Q I r h
  exact wpAny_assign_Name (store_ok I hN hi hx r (fun s' I' => ⟨_, H, I', h⟩) hf)
def gNil : TGs := fun vs σ H Q => vs = [] ∧ Q σ H
def gCons (t : TG) (u : TGs) : TGs := fun vs σ H Q => ∃ v r, vs = v :: r ∧ t v σ H fun σ' H' => u r σ' H' Q
theorem pgs_nil : PGs X [] gNil := by
  intro pins s σ H vs us Q I r h
  obtain ⟨e, h⟩ := h
  subst e
  cases r
  exact assignInOrder_nil ⟨σ, H, I, h⟩
theorem pgs_cons {e : Expr} {es : List Expr} {t : TG} {u : TGs} (h1 : PG X e t) (h2 : PGs X es u)
    (hs : (assignEach (e :: es) X.env).map (·.2) = assign e X.env :: (assignEach es X.env).map (·.2) := by rfl) : PGs X (e :: es) (gCons t u) := by
  intro pins s σ H vs us Q I r h
  obtain ⟨v, vr, e1, h⟩ := h
  subst e1
  cases r with
  | cons r rr =>
    rw [hs]
    refine assignInOrder_cons (thn (h1 pins s σ H _ _ _ I r h) fun _ s1 ⟨σ1, H1, I1, q1⟩ => ?_)
    exact h2 pins s1 σ1 H1 _ _ Q I1 rr q1
def gTup (K : PySem.W.Frag) (n : Nat) (t : TGs) : TG := fun v σ H Q => ∃ a xs, v = .ref a ∧ SqT K H a xs ∧ xs.length = n ∧ t xs σ H Q
theorem pg_tup {es : List Expr} {k : Nat} {t : TGs} {n : Nat} (hc : X.calm = true) (h : PGs X es t)
    (hn : (assignEach es X.env).length = n := by rfl) (hst : (assignEach es X.env).findIdx? (·.1) = none := by rfl) : PG X (.Tuple es k pos) (gTup X.K n t) := by
  intro pins s σ H v u Q I r hw
  obtain ⟨a, xs, e1, hq, hl, hw⟩ := hw
  subst e1
  cases r
  obtain ⟨its, rv, ht, hz⟩ := I.tuple hq
  refine assign_Tuple_tuple (I.ok.hd hc) ht (by simp [hn, ← hl, rv.length]) hst fun h' hx => ?_
  have I1 : Inv X pins σ H { s with heap := h' } := I.kept (t' := s.toks) fun b o e => hx b o (Nat.ne_of_lt (Heap.lt_size e)) e
  exact h pins _ σ H xs _ Q I1 (by simpa using rv) hw
def gSub (to ti : TE) (t : TSet) : TG := fun v σ H Q => to σ H fun o H1 => ti σ H1 fun i H2 => t o i v H2 fun H3 => Q σ H3
theorem pg_sub {o i : Expr} {to ti : TE} {t : TSet} (ho : PE X o to) (hi : PE X i ti) (hs : PSet X t)
    (ha : ∀ v, assign (.Subscript o i pos) X.env v = (do
      let ov ← holding [v] (eval o X.env)
      let iv ← holding [v, ov] (eval i X.env)
      standAt pos
      holding [v, ov, iv] (setItem ov iv v)
      release [v, ov, iv] []) := by intro _; rfl) : PG X (.Subscript o i pos) (gSub to ti t) := by
  intro pins s σ H v u Q I r h
  rw [ha]
  refine wpAny_bind (wpAny_holding (thn (ho pins s σ H _ I h) fun ov s1 ⟨x, H1, I1, r1, q1⟩ => ?_))
  refine wpAny_bind (wpAny_holding (thn (hi pins s1 σ H1 _ I1 q1) fun iv s2 ⟨y, H2, I2, r2, q2⟩ => ?_))
  refine wpAny_bind (wpAny_standAt (wpAny_bind (wpAny_holding (thn (hs pins s2 σ H2 x y v ov iv u _ I2 r1 r2 r q2) fun _ s3 ⟨H3, I3, q3⟩ => ?_))))
  exact wpAny_release ⟨σ, H3, I3, q3⟩
def tAsg (te : TE) (g : TG) : TS := fun D σ H => te σ H fun x H1 => g x σ H1 D.nx
theorem ps_asg {tg e : Expr} {te : TE} {g : TG} (he : PE X e te) (hg : PG X tg g) (hs : swapsWithSole [tg] e pos.line X.env = pure false := by rfl) (hw : swappedStores [tg] e X.env = pure none := by rfl)
    (h1 : (assignEach [tg] X.env).map (·.2) = [assign tg X.env] := by rfl) : PS X (.Assign [tg] e pos) (tAsg te g) := by
  intro pins s σ H D I h
  refine wpAny_Assign_stores (thn (he pins s σ H _ I h) fun v s1 ⟨x, H1, I1, r1, q1⟩ => ?_) hs hw
  rw [h1]
  exact thn (hg pins s1 σ H1 x v _ I1 r1 q1) fun _ s2 q => q
theorem ps_set {i : Nat} {x : Str} {e : Expr} {te : TE} {pos' : Pos} (hN : X.N.Nodup) (hi : X.N[i]? = some x) (hx : Loc X.env.scope x) (he : PE X e te) (hs : swapsWith e (some (.Name x pos')) pos.line X.env = pure false := by rfl) (hf : X.fn x = true ∨ X.env.scope.names.lookup x = some .local := by first | exact .inl rfl | exact .inr rfl | assumption) :
    PS X (.Assign [.Name x pos'] e pos) (tAsg te (gName i)) := by
  intro pins s σ H D I h
  refine wpAny_Assign_Name (thn (he pins s σ H _ I h) fun v s1 ⟨y, H1, I1, r1, q1⟩ => ?_) hs
  exact store_ok I1 hN hi hx r1 (fun s2 I2 => ⟨_, H1, I2, q1⟩) hf
end
section
variable {X : Cx} {pos : Pos}
end
structure It where
  go : Nat → Hp → Prop
  yld : Nat → Hp → V → Hp → Prop
  stop : Nat → Hp → Prop
def FpOk (X : Cx) (pins : List (Addr × Obj)) (H : Hp) (b : Addr) : Prop :=
  H b = none ∧ b ≠ X.env.locals ∧ b ∉ X.fs ∧ (b ∈ X.ex ∨ X.s₀.heap.objs.size ≤ b) ∧ (∀ x c, X.env.cells.lookup x = some c → c ≠ b) ∧ ∀ p ∈ X.pn ++ pins, p.1 ≠ b
theorem Inv.fpOk {X : Cx} {pins : List (Addr × Obj)} {σ : St} {H H' : Hp} {s : Shared} {b : Addr} (I : Inv X pins σ H s) (hb : s.heap.objs.size ≤ b) (hn : H' b = none) : FpOk X pins H' b := by
  refine ⟨hn, Nat.ne_of_gt (Nat.lt_of_lt_of_le I.lt hb), I.nofs hb, .inr (Nat.le_trans I.sz hb), fun x c e z => ?_, fun p hp z => ?_⟩
  · obtain ⟨v, q⟩ := I.cell x c e
    exact absurd (Nat.lt_of_lt_of_le q.lt (by rw [z]; exact hb)) (Nat.lt_irrefl _)
  · exact absurd (Nat.lt_of_lt_of_le (Heap.lt_size (I.pin p hp).1) (by rw [z]; exact hb)) (Nat.lt_irrefl _)
structure Turn (P : Program) (w : World) (K : PySem.W.Frag) (tg : Expr) (J : It) (fp : List Addr) (it : Addr) (tn : Nat → Heap → Prop) : Prop where
  mem : it ∈ fp
  obj : ∀ i h, tn i h → ∀ b ∈ fp, ∃ o, h.get? b = some o ∧ ∀ v, o.data ≠ .cell v
  keep : ∀ i h h', tn i h → (∀ b ∈ fp, ∀ o, h.get? b = some o → h'.get? b = some o) → tn i h'
  item : ∀ (X : Cx), X.prog = P → X.w = w → X.K = K → X.calm = true → ∀ (i : Nat) (pins : List (Addr × Obj)) (s : Shared) (σ : St) (H : Hp) (E : Value → Shared → Prop), Inv X pins σ H s → (∀ b ∈ fp, FpOk X pins H b) → tn i s.heap → J.go i H →
    wpAny (model P w) X.A (pyNext (.ref it)) (fun r s1 => ∃ u, r = some u ∧
      wpAny (model P w) X.A (letOwnedTupleGo tg (.ref it) u) (fun _ s2 => ∃ x H', Inv X pins σ H' s2 ∧ RelV x u ∧ J.yld i H x H' ∧ tn (i + 1) s2.heap ∧ ∀ b ∈ fp, H' b = none) E s1) E s
  done : ∀ (X : Cx), X.prog = P → X.w = w → X.K = K → X.calm = true → ∀ (i : Nat) (pins : List (Addr × Obj)) (s : Shared) (σ : St) (H : Hp) (E : Value → Shared → Prop), Inv X pins σ H s → (∀ b ∈ fp, FpOk X pins H b) → tn i s.heap → J.stop i H →
    wpAny (model P w) X.A (pyNext (.ref it)) (fun r s1 => r = none ∧ Inv X pins σ H s1) E s
  self : ∀ (A : Around) (i : Nat) (s : Shared) (Q : Value → Shared → Prop) (E : Value → Shared → Prop), tn i s.heap → Q (.ref it) s → wpAny (model P w) A (pyIter (.ref it)) Q E s
abbrev TI := St → Hp → (It → Hp → Prop) → Prop
def PIE (X : Cx) (pins : List (Addr × Obj)) (σ : St) (tg : Expr) (R : It → Hp → Prop) (itv : Value) (s2 : Shared) : Prop :=
  ∃ (it : Addr) (fp : List Addr) (tn : Nat → Heap → Prop) (J : It) (H' : Hp), itv = .ref it ∧ Inv X pins σ H' s2 ∧ Turn X.prog X.w X.K tg J fp it tn ∧ tn 0 s2.heap ∧ (∀ b ∈ fp, FpOk X pins H' b) ∧ R J H'
def PI (X : Cx) (tg iter : Expr) (wi : TI) : Prop :=
  ∀ (pins : List (Addr × Obj)) (s : Shared) (σ : St) (H : Hp) (R : It → Hp → Prop), Inv X pins σ H s → wi σ H R →
    wpAny (model X.prog X.w) X.A (eval iter X.env) (fun v s1 => wpAny (model X.prog X.w) X.A (pyIter v) (PIE X pins σ tg R) X.xe s1) X.xe s
theorem go_of {M : Model} {A : Around} {E : Value → Shared → Prop} {s : Shared} {tg : Expr} {it : Addr} {u : Value} {o : Obj} {n : String} {vs : Array Value} {Q : Unit → Shared → Prop} (ho : s.heap.get? it = some o) (hc : o.cls = .type n) (hd : o.data = .fields vs)
    (hn : ["enumerate", "zip", "dict_itemiterator", "dict_reverseitemiterator", "odict_iterator", "itertools.zip_longest", "itertools.pairwise"].contains n = false) (hQ : Q () s) : wpAny M A (letOwnedTupleGo tg (.ref it) u) Q E s := by
  unfold letOwnedTupleGo
  cases tg <;> first
    | exact wpAny_pure hQ
    | (cases u <;> first
        | exact wpAny_pure hQ
        | (refine wpAny_bind (wpAny_load ho ?_)
           rw [hc, hd]
           show wpAny M A (if (["enumerate", "zip", "dict_itemiterator", "dict_reverseitemiterator", "odict_iterator", "itertools.zip_longest", "itertools.pairwise"].contains n && vs[0]? == some (rawInt _)) = true then _ else _) Q E s
           rw [if_neg (by intro h; rw [hn, Bool.false_and] at h; cases h)]
           exact wpAny_pure hQ))
def Itl (K : PySem.W.Frag) (a : Addr) : It :=
  ⟨fun i H => ∃ xs x, SqL K H a xs ∧ xs[i]? = some x, fun i H x H' => H' = H ∧ ∀ xs, SqL K H a xs → xs[i]? = some x, fun i H => ∃ xs, SqL K H a xs ∧ xs.length ≤ i⟩
def Itr (lo : Int) (n : Nat) : It := ⟨fun i _ => i < n, fun i H x H' => H' = H ∧ x = .int (lo + i), fun i _ => n ≤ i⟩
theorem turn_list {P : Program} {w : World} {K : PySem.W.Frag} {tg : Expr} (a it : Addr) : Turn P w K tg (Itl K a) [it] it (fun i h => h.IsListIter it a i) where
  mem := by simp
  obj := fun i h st b hb => by
    have e : b = it := by simpa using hb
    subst e
    obtain ⟨o, e, c, d⟩ := st
    exact ⟨o, e, fun v z => by rw [d] at z; cases z⟩
  keep := fun i h h' st k => st.at fun o e => k it (by simp) o e
  item := by
    intro X hP hw hK hc i pins s σ H E I hf st hg
    subst hP hw hK
    obtain ⟨xs, x, hq, hx⟩ := hg
    obtain ⟨its, rv, p, hz⟩ := I.list hq
    obtain ⟨u, hu, ru⟩ := rv.get hx
    obtain ⟨f0, f1, f2, f3, f4, f5⟩ := hf it (by simp)
    refine wpAny_pyNext_list_item st p.isList (x := u) (by simpa using hu) fun h' st' sb => ?_
    have I1 : Inv X pins σ H { s with heap := h' } := I.turned (t' := s.toks) (fun b o hb e => (sb.2 b hb).trans e) f0 f1 f3 f4 f5
    obtain ⟨o, e, c, d⟩ := id st'
    exact ⟨u, rfl, go_of (s := { s with heap := h' }) e c d (by decide) ⟨x, H, I1, ru, ⟨rfl, fun ys hy => by rw [I.list_inj hy hq]; exact hx⟩, st', fun b hb => (hf b hb).1⟩⟩
  done := by
    intro X hP hw hK hc i pins s σ H E I hf st hg
    subst hP hw hK
    obtain ⟨xs, hq, hx⟩ := hg
    obtain ⟨its, rv, p, hz⟩ := I.list hq
    obtain ⟨f0, f1, f2, f3, f4, f5⟩ := hf it (by simp)
    have hl := rv.length
    exact wpAny_pyNext_list_end (I.ok.hd hc) st p.isList (by simp; omega) fun h' eb => ⟨rfl, I.turned (t' := s.toks) (fun b o hb e => eb b o hb e) f0 f1 f3 f4 f5⟩
  self := fun _ _ _ _ _ st h => wpAny_pyIter_listiter st h
theorem turn_range {P : Program} {w : World} {K : PySem.W.Frag} {tg : Expr} (it : Addr) (lo : Int) (n : Nat) : Turn P w K tg (Itr lo n) [it] it (fun i h => IsRangeIter h it (lo + (i : Nat) * 1) ((n : Int) - (i : Nat)) 1) where
  mem := by simp
  obj := fun i h st b hb => by
    have e : b = it := by simpa using hb
    subst e
    exact ⟨_, st, fun v z => by
      have z' : Data.fields _ = Data.cell v := z
      cases z'⟩
  keep := fun i h h' st k => k it (by simp) _ st
  item := by
    intro X hP hw hK hc i pins s σ H E I hf st hg
    subst hP hw hK
    obtain ⟨f0, f1, f2, f3, f4, f5⟩ := hf it (by simp)
    have W := Walks.range (prog := X.prog) (w := X.w) (I.ok.hd hc) it lo 1 n
    refine W.item i s _ _ hg st fun v h' tk hv st' kk => ?_
    obtain ⟨t, rfl⟩ := hv
    have I1 : Inv X pins σ H { s with heap := h', toks := tk } := I.turned (fun b o hb e => kk b o (by simpa using hb) e) f0 f1 f3 f4 f5
    refine ⟨_, rfl, go_of (s := { s with heap := h', toks := tk }) (n := "range_iterator") st' rfl rfl (by decide) ⟨.int (lo + i), H, I1, ⟨t, ?_⟩, ⟨rfl, rfl⟩, st', fun b hb => (hf b hb).1⟩⟩
    rw [Int.mul_one]
  done := by
    intro X hP hw hK hc i pins s σ H E I hf st hg
    subst hP hw hK
    obtain ⟨f0, f1, f2, f3, f4, f5⟩ := hf it (by simp)
    exact wpAny_pyNext_range_end (I.ok.hd hc) st (by have : n ≤ i := hg; omega) fun h' eb => ⟨rfl, I.turned (t' := s.toks) (fun b o hb e => eb b o hb e) f0 f1 f3 f4 f5⟩
  self := fun _ _ _ _ _ st h => wpAny_pyIter_rangeiter st h
end L2
namespace L2
open PySem PySem.Spec PyProof.Rows
section
variable {X : Cx} {tg : Expr}
def iList (K : PySem.W.Frag) (tl : TE) : TI := fun σ H R => tl σ H fun x H1 => ∃ a, x = .ref a ∧ (∃ xs, SqL K H1 a xs) ∧ R (Itl K a) H1
theorem pi_list {l : Expr} {tl : TE} (hl : PE X l tl) : PI X tg l (iList X.K tl) := by
  intro pins s σ H R I h
  refine thn (hl pins s σ H _ I h) fun v s1 ⟨x, H1, I1, r1, q1⟩ => ?_
  obtain ⟨a, e, ⟨xs, hq⟩, q⟩ := q1
  subst e
  cases r1
  obtain ⟨its, rv, p, hz⟩ := I1.list hq
  refine wpAny_pyIter_list p.isList ?_
  refine ⟨s1.heap.objs.size, [s1.heap.objs.size], _, _, H1, rfl, I1.kept (t' := s1.toks) fun b o e => Heap.get?_push_of_some _ e, turn_list a _, ⟨_, Heap.get?_push_size _ rfl, rfl, rfl⟩, fun b hb => ?_, q⟩
  have e : b = s1.heap.objs.size := by simpa using hb
  subst e
  exact I1.fpOk (Nat.le_refl _) (I1.hok.fresh (Nat.le_refl _))
theorem range_it {pins : List (Addr × Obj)} {σ : St} {H : Hp} {s : Shared} {R : It → Hp → Prop} {E : Value → Shared → Prop} {lo hi : Int} {t u v : Tok} {tk : Nat} (I : Inv X pins σ H s) (h1 : -(2 ^ 62) ≤ lo) (h2 : lo < 2 ^ 62) (h3 : -(2 ^ 62) ≤ hi) (h4 : hi < 2 ^ 62)
    (q : R (Itr lo (hi - lo).toNat) H) : wpAny (model X.prog X.w) X.A (pyIter (.ref s.heap.objs.size)) (PIE X pins σ tg R) E { s with heap := s.heap.push { cls := .type "range", data := .fields #[.int lo t, .int hi u, .int 1 v] }, toks := tk } := by
  refine wpAny_pyIter_range (IsRange.new ..) (small_one h1 h2 h3 h4) ?_
  have I1 : Inv X pins σ H { s with heap := s.heap.push { cls := .type "range", data := .fields #[.int lo t, .int hi u, .int 1 v] }, toks := tk } := I.kept fun b o e => Heap.get?_push_of_some _ e
  refine ⟨(s.heap.push { cls := .type "range", data := .fields #[.int lo t, .int hi u, .int 1 v] }).objs.size, [(s.heap.push { cls := .type "range", data := .fields #[.int lo t, .int hi u, .int 1 v] }).objs.size], _, _, H, rfl,
    I1.kept (t' := tk) fun b o e => Heap.get?_push_of_some _ e, turn_range _ lo (hi - lo).toNat, ?_, fun b hb => ?_, q⟩
  · have e1 : lo + ((0 : Nat) : Int) * 1 = lo := by simp
    have e2 : (((hi - lo).toNat : Nat) : Int) - ((0 : Nat) : Int) = Builtin.Range.rangeSize lo hi 1 := by rw [rangeSize_one]; split <;> omega
    show IsRangeIter _ _ (lo + ((0 : Nat) : Int) * 1) ((((hi - lo).toNat : Nat) : Int) - ((0 : Nat) : Int)) 1
    rw [e1, e2]
    exact Heap.get?_push_size _ rfl
  · have e : b = (s.heap.push { cls := .type "range", data := .fields #[.int lo t, .int hi u, .int 1 v] }).objs.size := by simpa using hb
    subst e
    exact I1.fpOk (Nat.le_refl _) (I1.hok.fresh (Nat.le_refl _))
def iRng1 (ta : TA) : TI := fun σ H R => ta σ H fun vs H1 => ∃ j : Int, vs = [.int j] ∧ -(2 ^ 62) ≤ j ∧ j < 2 ^ 62 ∧ R (Itr 0 j.toNat) H1
def iRng2 (ta : TA) : TI := fun σ H R => ta σ H fun vs H1 => ∃ i j : Int, vs = [.int i, .int j] ∧ (-(2 ^ 62) ≤ i ∧ i < 2 ^ 62 ∧ -(2 ^ 62) ≤ j ∧ j < 2 ^ 62) ∧ R (Itr i (j - i).toNat) H1
theorem pi_range1 {a : Expr} {ta : TA} {p pos : Pos} (hg : Gl X "range") (hm : X.mg "range" = none) (ha : PA X [a] ta) (hs : starEach [a] X.env = [(false, eval a X.env)] := by rfl) : PI X tg (.Call (.Name "range" p) [a] [] pos) (iRng1 ta) := by
  intro pins s σ H R I h
  refine Call_ (ld_blt I hg hm boot_range (PyProof.Rows.callWith_type1 (thn (ha pos pins s σ H _ I h) fun us s1 ⟨vs, H1, I1, r1, q1⟩ => ?_) hs rfl))
  obtain ⟨j, e, q1, q2, q⟩ := q1
  subst e
  cases r1 with
  | cons r rr =>
    cases rr
    obtain ⟨t, rfl⟩ := r
    exact call_range_1 (range_it I1 (by omega) (by omega) q1 q2 (by simpa using q))
theorem pi_range2 {a b : Expr} {ta : TA} {p pos : Pos} (hg : Gl X "range") (hm : X.mg "range" = none) (ha : PA X [a, b] ta) (hs : starEach [a, b] X.env = [(false, eval a X.env), (false, eval b X.env)] := by rfl) (hs2 : starEach [b] X.env = [(false, eval b X.env)] := by rfl) :
    PI X tg (.Call (.Name "range" p) [a, b] [] pos) (iRng2 ta) := by
  intro pins s σ H R I h
  refine Call_ (ld_blt I hg hm boot_range (PyProof.Rows.callWith_type1 (thn (ha pos pins s σ H _ I h) fun us s1 ⟨vs, H1, I1, r1, q1⟩ => ?_) (by rw [hs, hs2]) (by rw [hs2]; rfl)))
  obtain ⟨i, j, e, ⟨q1, q2, q3, q4⟩, q⟩ := q1
  subst e
  cases r1 with
  | cons r rr =>
    cases rr with
    | cons r' rr =>
      cases rr
      obtain ⟨t, rfl⟩ := r
      obtain ⟨t', rfl⟩ := r'
      exact call_range_2 (range_it I1 q1 q2 q3 q4 q)
def tFor (wi : TI) (g : TG) (tb : TS) : TS := fun D σ H => wi σ H fun J H1 => ∃ W : Nat → Nat → St → Hp → Prop, (∃ m, W 0 m σ H1) ∧ ∀ i m σ H, W i m σ H →
  (J.stop i H ∧ D.nx σ H) ∨ (J.go i H ∧ ∃ N : St → Hp → Prop, (∀ σ' H', N σ' H' → ∃ m', m' < m ∧ W (i + 1) m' σ' H') ∧ ∀ x H', J.yld i H x H' → g x σ H' fun σ2 H2 => tb { D with nx := N, ct := N, bk := D.nx } σ2 H2)
def pinsAt (fp : List Addr) (h : Heap) : List (Addr × Obj) := fp.filterMap fun b => (h.get? b).map fun o => (b, o)
theorem mem_pinsAt {fp : List Addr} {h : Heap} {b : Addr} {o : Obj} (hb : b ∈ fp) (e : h.get? b = some o) : (b, o) ∈ pinsAt fp h := List.mem_filterMap.mpr ⟨b, hb, by rw [e]; rfl⟩
theorem of_pinsAt {fp : List Addr} {h : Heap} {p : Addr × Obj} (hp : p ∈ pinsAt fp h) : p.1 ∈ fp ∧ h.get? p.1 = some p.2 := by
  obtain ⟨b, hb, e⟩ := List.mem_filterMap.mp hp
  cases q : h.get? b with
  | none => rw [q] at e; cases e
  | some o =>
    rw [q] at e
    have e' : (b, o) = p := Option.some.inj e
    subst e'
    exact ⟨hb, q⟩
theorem Inv.pinned {pins : List (Addr × Obj)} {σ : St} {H : Hp} {s : Shared} {fp : List Addr} (I : Inv X pins σ H s) (hf : ∀ b ∈ fp, FpOk X pins H b) (ho : ∀ b ∈ fp, ∃ o, s.heap.get? b = some o ∧ ∀ v, o.data ≠ .cell v) : Inv X (pins ++ pinsAt fp s.heap) σ H s :=
  I.pins_of fun p hp => (List.mem_append.mp hp).elim (fun z => I.pin p (List.mem_append_right _ z)) fun z => by
    obtain ⟨hb, e⟩ := of_pinsAt z
    obtain ⟨f0, f1, f2, _⟩ := hf p.1 hb
    obtain ⟨o, e', d⟩ := ho p.1 hb
    rw [e] at e'; cases e'
    exact ⟨e, f0, f1, f2, d⟩
theorem Inv.unpinned {pins pl : List (Addr × Obj)} {σ : St} {H : Hp} {s : Shared} (I : Inv X (pins ++ pl) σ H s) : Inv X pins σ H s := I.pins_of fun p hp => I.pin p (List.mem_append_right _ (List.mem_append_left _ hp))
theorem ps_for {iter : Expr} {body : List Stmt} {wi : TI} {g : TG} {tb : TS} {pos : Pos} (hp : PassesOwn (model X.prog X.w) X.A X.env X.xe) (hc : X.calm = true) (hi : PI X tg iter wi) (hg : PG X tg g) (hb : PSs X body tb)
    (hs : ∀ x, foldedSetIterable iter X.env x = pure x := by intro _; rfl) : PS X (.For tg iter body [] pos) (tFor wi g tb) := by
  intro pins s σ H D I h
  refine wpAny_For (thn (hi pins s σ H _ I h) fun v s1 h1 => thn h1 fun itv s2 h2 => ?_) hs
  obtain ⟨it, fp, tn, J, H2, e, I2, T, st2, f2, W, ⟨m0, w0⟩, turn⟩ := h2
  subst e
  have stat : ∀ {H' : Hp}, (∀ b ∈ fp, H' b = none) → ∀ b ∈ fp, FpOk X pins H' b := fun hn b hb => ⟨hn b hb, (f2 b hb).2⟩
  refine codeAny_forLoop_any (fun n s' => ∃ i σ' H', Inv X pins σ' H' s' ∧ tn i s'.heap ∧ (∀ b ∈ fp, H' b = none) ∧ W i n σ' H') ?_ m0 ⟨0, σ, H2, I2, st2, fun b hb => (f2 b hb).1, w0⟩
  rintro n s3 ⟨i, σ3, H3, I3, st3, fr3, w3⟩
  rcases turn i n σ3 H3 w3 with ⟨stop, qn⟩ | ⟨go, N, hN, step⟩
  · refine wpAny_passesOwn hp (thn (T.done X rfl rfl rfl hc i pins s3 σ3 H3 X.xe I3 (stat fr3) st3 stop) fun r s4 ⟨hr, I4⟩ => ?_)
    subst hr
    exact wpAny_execs_nil ⟨σ3, H3, I4, qn⟩
  · refine wpAny_passesOwn hp (thn (T.item X rfl rfl rfl hc i pins s3 σ3 H3 X.xe I3 (stat fr3) st3 go) fun r s4 ⟨u, hr, h4⟩ => ?_)
    subst hr
    refine wpAny_passesOwn hp (thn h4 fun _ s5 ⟨x, H5, I5, r5, y5, st5, fr5⟩ => ?_)
    have I5' := I5.pinned (stat fr5) (T.obj _ _ st5)
    refine wpAny_passesOwn hp (thn (hg _ s5 σ3 H5 x u _ I5' r5 (step x H5 y5)) fun _ s6 ⟨σ6, H6, I6, q6⟩ => ?_)
    refine wpAny_passesOwn hp (thn (hb _ s6 σ6 H6 _ I6 q6) fun f s7 q7 => ?_)
    have again : ∀ {σ7 : St} {H7 : Hp}, Inv X (pins ++ pinsAt fp s5.heap) σ7 H7 s7 → N σ7 H7 → ∃ m, m < n ∧ ∃ i σ' H', Inv X pins σ' H' s7 ∧ tn i s7.heap ∧ (∀ b ∈ fp, H' b = none) ∧ W i m σ' H' := fun {σ7 H7} I7 n7 => by
      obtain ⟨m', hm, w7⟩ := hN σ7 H7 n7
      refine ⟨m', hm, i + 1, σ7, H7, I7.unpinned, T.keep _ _ _ st5 fun b hb o e => (I7.pin (b, o) (List.mem_append_right _ (List.mem_append_right _ (mem_pinsAt hb e)))).1, fun b hb => ?_, w7⟩
      obtain ⟨o, e, d⟩ := T.obj _ _ st5 b hb
      exact (I7.pin (b, o) (List.mem_append_right _ (List.mem_append_right _ (mem_pinsAt hb e)))).2.1
    cases f with
    | next => obtain ⟨σ7, H7, I7, n7⟩ := q7; exact again I7 n7
    | cont => obtain ⟨σ7, H7, I7, n7⟩ := q7; exact again I7 n7
    | brk => obtain ⟨σ7, H7, I7, q7⟩ := q7; exact ⟨σ7, H7, I7.unpinned, q7⟩
    | ret v => obtain ⟨x7, σ7, H7, I7, r7, q7⟩ := q7; exact ⟨x7, σ7, H7, I7.unpinned, r7, q7⟩
end
theorem for_list {K : PySem.W.Frag} {a : Addr} {xs : List V} {g : TG} {tb : TS} {D : Ends} {σ : St} {H : Hp} (Pv : Nat → St → Hp → Prop) (h0 : Pv 0 σ H) (hl : ∀ i σ H, i ≤ xs.length → Pv i σ H → SqL K H a xs)
    (hs : ∀ i x σ H, xs[i]? = some x → Pv i σ H → g x σ H fun σ2 H2 => tb { D with nx := Pv (i + 1), ct := Pv (i + 1), bk := D.nx } σ2 H2) (hd : ∀ σ H, Pv xs.length σ H → D.nx σ H) :
    ∃ W : Nat → Nat → St → Hp → Prop, (∃ m, W 0 m σ H) ∧ ∀ i m σ H, W i m σ H →
      ((Itl K a).stop i H ∧ D.nx σ H) ∨ ((Itl K a).go i H ∧ ∃ N : St → Hp → Prop, (∀ σ' H', N σ' H' → ∃ m', m' < m ∧ W (i + 1) m' σ' H') ∧ ∀ x H', (Itl K a).yld i H x H' → g x σ H' fun σ2 H2 => tb { D with nx := N, ct := N, bk := D.nx } σ2 H2) := by
  refine ⟨fun i m σ H => m = xs.length - i ∧ i ≤ xs.length ∧ Pv i σ H, ⟨xs.length, by simp, Nat.zero_le _, h0⟩, ?_⟩
  rintro i m σ H ⟨rfl, hi, p⟩
  have q := hl i σ H hi p
  by_cases hlt : i < xs.length
  · refine .inr ⟨⟨xs, xs[i], q, by simp [hlt]⟩, Pv (i + 1), fun σ' H' p' => ⟨xs.length - (i + 1), by omega, rfl, hlt, p'⟩, fun x H' y => ?_⟩
    obtain ⟨e, y⟩ := y
    subst e
    exact hs i x σ _ (y xs q) p
  · have e : i = xs.length := by omega
    subst e
    exact .inl ⟨⟨xs, q, Nat.le_refl _⟩, hd σ H p⟩
theorem for_range {lo : Int} {n : Nat} {g : TG} {tb : TS} {D : Ends} {σ : St} {H : Hp} (Pv : Nat → St → Hp → Prop) (h0 : Pv 0 σ H)
    (hs : ∀ i σ H, i < n → Pv i σ H → g (.int (lo + i)) σ H fun σ2 H2 => tb { D with nx := Pv (i + 1), ct := Pv (i + 1), bk := D.nx } σ2 H2) (hd : ∀ σ H, Pv n σ H → D.nx σ H) :
    ∃ W : Nat → Nat → St → Hp → Prop, (∃ m, W 0 m σ H) ∧ ∀ i m σ H, W i m σ H →
      ((Itr lo n).stop i H ∧ D.nx σ H) ∨ ((Itr lo n).go i H ∧ ∃ N : St → Hp → Prop, (∀ σ' H', N σ' H' → ∃ m', m' < m ∧ W (i + 1) m' σ' H') ∧ ∀ x H', (Itr lo n).yld i H x H' → g x σ H' fun σ2 H2 => tb { D with nx := N, ct := N, bk := D.nx } σ2 H2) := by
  refine ⟨fun i m σ H => m = n - i ∧ i ≤ n ∧ Pv i σ H, ⟨n, by simp, Nat.zero_le _, h0⟩, ?_⟩
  rintro i m σ H ⟨rfl, hi, p⟩
  by_cases hlt : i < n
  · refine .inr ⟨hlt, Pv (i + 1), fun σ' H' p' => ⟨n - (i + 1), by omega, rfl, hlt, p'⟩, fun x H' y => ?_⟩
    obtain ⟨e, y⟩ := y
    subst e y
    exact hs i σ _ hlt p
  · have e : i = n := by omega
    subst e
    exact .inl ⟨Nat.le_refl _, hd σ H p⟩
end L2
namespace L2
open PySem PySem.Spec PyProof.Rows
abbrev R2 := V → V → Hp → VK → Prop
def OpR (X : Cx) (f : Value → Value → Sem Value) (r : R2) : Prop :=
  ∀ (pins : List (Addr × Obj)) (s : Shared) (σ : St) (H : Hp) (x y : V) (v u : Value) (Q : VK), Inv X pins σ H s → RelV x v → RelV y u → r x y H Q →
    wpAny (model X.prog X.w) X.A (f v u) (EP X pins σ Q) X.xe s
def UnR (X : Cx) (f : Value → Sem Value) (r : V → Hp → VK → Prop) : Prop :=
  ∀ (pins : List (Addr × Obj)) (s : Shared) (σ : St) (H : Hp) (x : V) (v : Value) (Q : VK), Inv X pins σ H s → RelV x v → r x H Q →
    wpAny (model X.prog X.w) X.A (f v) (EP X pins σ Q) X.xe s
def CallR (X : Cx) (f : Value) (r : List V → Hp → VK → Prop) : Prop :=
  ∀ (pins : List (Addr × Obj)) (s : Shared) (σ : St) (H : Hp) (xs : List V) (us : List Value) (Q : VK), Inv X pins σ H s → Vals xs us → r xs H Q →
    wpAny (model X.prog X.w) X.A (call f us) (EP X pins σ Q) X.xe s
def tOp (r : R2) (ta tb : TE) : TE := fun σ H Q => ta σ H fun x H1 => tb σ H1 fun y H2 => r x y H2 Q
def rI (C : Int → Int → Prop) (g : Int → Int → V) : R2 := fun x y H Q => ∃ i j, x = .int i ∧ y = .int j ∧ C i j ∧ Q (g i j) H
def rI0 (g : Int → Int → V) : R2 := fun x y H Q => ∃ i j, x = .int i ∧ y = .int j ∧ Q (g i j) H
section
variable {X : Cx} {a b c : Expr} {ta tb tc : TE} {pos : Pos}
theorem binT (ha : PE X a ta) (hb : PE X b tb) {pins : List (Addr × Obj)} {s : Shared} {σ : St} {H : Hp} {R : V → V → Hp → Prop} (I : Inv X pins σ H s)
    (h : ta σ H fun x H1 => tb σ H1 fun y H2 => R x y H2) {Q : Value → Shared → Prop} {f : Value → Value → Sem Value}
    (hf : ∀ v u s2 x y H2, Inv X pins σ H2 s2 → RelV x v → RelV y u → R x y H2 → wpAny (model X.prog X.w) X.A (f v u) Q X.xe s2) :
    wpAny (model X.prog X.w) X.A (eval a X.env) (fun v s₁ => wpAny (model X.prog X.w) X.A (eval b X.env) (fun u s₂ => wpAny (model X.prog X.w) X.A (f v u) Q X.xe s₂) X.xe s₁) X.xe s := by
  refine thn (ha pins s σ H _ I h) fun v s1 ⟨x, H1, I1, r1, q1⟩ => ?_
  refine thn (hb pins s1 σ H1 _ I1 q1) fun u s2 ⟨y, H2, I2, r2, q2⟩ => ?_
  exact hf v u s2 x y H2 I2 r1 r2 q2
theorem pe_op {op : Operator} {r : R2} (ho : OpR X (binaryOp op) r) (ha : PE X a ta) (hb : PE X b tb) : PE X (.BinOp a op b pos) (tOp r ta tb) := by
  intro pins s σ H Q I h
  exact wpAny_BinOp (binT ha hb I h fun v u s2 x y H2 I2 rx ry q => ho pins s2 σ H2 x y v u Q I2 rx ry q)
theorem opI {f : Value → Value → Sem Value} {C : Int → Int → Prop} {g : Int → Int → Int}
    (rule : ∀ (i j : Int) (t u : Tok) (s : Shared) (Q : Value → Shared → Prop) (E : Value → Shared → Prop), C i j → Q (.int (g i j) s.toks) { s with toks := s.toks + 1 } → wpAny (model X.prog X.w) X.A (f (.int i t) (.int j u)) Q E s) :
    OpR X f (rI C fun i j => .int (g i j)) := by
  intro pins s σ H x y v u Q I rx ry h
  obtain ⟨i, j, rfl, rfl, hc, q⟩ := h
  obtain ⟨t, rfl⟩ := rx
  obtain ⟨t', rfl⟩ := ry
  exact rule i j t t' s _ _ hc ⟨.int (g i j), H, I.tok _, ⟨_, rfl⟩, q⟩
theorem opI0 {f : Value → Value → Sem Value} {g : Int → Int → Int}
    (rule : ∀ (i j : Int) (t u : Tok) (s : Shared) (Q : Value → Shared → Prop) (E : Value → Shared → Prop), Q (.int (g i j) s.toks) { s with toks := s.toks + 1 } → wpAny (model X.prog X.w) X.A (f (.int i t) (.int j u)) Q E s) :
    OpR X f (rI0 fun i j => .int (g i j)) := by
  intro pins s σ H x y v u Q I rx ry h
  obtain ⟨i, j, rfl, rfl, q⟩ := h
  obtain ⟨t, rfl⟩ := rx
  obtain ⟨t', rfl⟩ := ry
  exact rule i j t t' s _ _ ⟨.int (g i j), H, I.tok _, ⟨_, rfl⟩, q⟩
theorem opB0 {f : Value → Value → Sem Value} {g : Int → Int → Bool}
    (rule : ∀ (i j : Int) (t u : Tok) (s : Shared) (Q : Value → Shared → Prop) (E : Value → Shared → Prop), Q (.bool (g i j)) s → wpAny (model X.prog X.w) X.A (f (.int i t) (.int j u)) Q E s) :
    OpR X f (rI0 fun i j => .bl (g i j)) := by
  intro pins s σ H x y v u Q I rx ry h
  obtain ⟨i, j, rfl, rfl, q⟩ := h
  obtain ⟨t, rfl⟩ := rx
  obtain ⟨t', rfl⟩ := ry
  exact rule i j t t' s _ _ ⟨.bl (g i j), H, I, rfl, q⟩
def CDiv (i j : Int) : Prop := 0 < j ∧ j < 1073741824
def CMul (i j : Int) : Prop := (-(2 ^ 64) < i ∧ i < 2 ^ 64) ∨ (-(2 ^ 64) < j ∧ j < 2 ^ 64)
theorem CMul.ok {i j : Int} (h : CMul i j) : IntMulOk i j := by
  rcases h with ⟨h1, h2⟩ | ⟨h1, h2⟩
  · exact .of_left (intBits_le_64 h1 h2)
  · exact .of_right (intBits_le_64 h1 h2)
theorem op_add : OpR X (binaryOp .Add) (rI0 fun i j => .int (i + j)) := opI0 fun _ _ _ _ _ _ _ q => add_int q
theorem op_sub : OpR X (binaryOp .Sub) (rI0 fun i j => .int (i - j)) := opI0 fun _ _ _ _ _ _ _ q => sub_int q
theorem op_mul : OpR X (binaryOp .Mult) (rI CMul fun i j => .int (i * j)) := opI fun _ _ _ _ _ _ _ hc q => mul_int q hc.ok
theorem op_fdiv : OpR X (binaryOp .FloorDiv) (rI CDiv fun i j => .int (i / j)) := opI fun i j _ _ _ _ _ hc q => by
  have h1 : (0 : Int) < j := hc.1
  have h2 : j < 1073741824 := hc.2
  exact floordiv_int (by omega) (by rw [Int.fdiv_eq_ediv_of_nonneg i (by omega)]; exact q) (.inl (PyProof.noPylong_small (by omega)))
theorem op_mod : OpR X (binaryOp .Mod) (rI (fun _ j => 0 < j) fun i j => .int (i % j)) := opI fun i j _ _ _ _ _ hc q => by
  have h1 : (0 : Int) < j := hc
  exact mod_int' (by omega) (by rw [Int.fmod_eq_emod_of_nonneg i (by omega)]; exact q)
end
def scal : V → V → Bool
  | .non, .non => true | .non, .int _ => true | .int _, .non => true | .non, .bl _ => true | .bl _, .non => true | .non, .str _ => true | .str _, .non => true
  | .int _, .int _ => true | .bl _, .bl _ => true | .str _, .str _ => true | .byt _, .byt _ => true
  | .int _, .str _ => true | .str _, .int _ => true | .bl _, .str _ => true | .str _, .bl _ => true
  | _, _ => false
def rEq : R2 := fun x y H Q => scal x y = true ∧ Q (.bl (decide (x = y))) H
def rNe : R2 := fun x y H Q => scal x y = true ∧ Q (.bl (!decide (x = y))) H
theorem dec_int {i j : Int} : decide (V.int i = V.int j) = (i == j) := by
  rw [Bool.eq_iff_iff]
  simp
theorem dec_bl {i j : Bool} : decide (V.bl i = V.bl j) = (i == j) := by
  rw [Bool.eq_iff_iff]
  simp
theorem dec_str {i j : Str} : decide (V.str i = V.str j) = (i == j) := by
  rw [Bool.eq_iff_iff]
  simp
theorem dec_byt {i j : Array UInt8} : decide (V.byt i = V.byt j) = (i.toList == j.toList) := by
  rw [Bool.eq_iff_iff]
  cases i
  cases j
  simp
section
variable {X : Cx} {a b c : Expr} {ta tb tc : TE} {pos : Pos}
theorem fin_bl {pins : List (Addr × Obj)} {σ : St} {H : Hp} {s : Shared} {Q : VK} {k k' : Bool} (I : Inv X pins σ H s) (q : Q (.bl k) H) (e : k = k') : EP X pins σ Q (.bool k') s := by
  subst e
  exact ⟨.bl k, H, I, rfl, q⟩
theorem op_eq : OpR X (compareOp .Eq) rEq := by
  intro pins s σ H x y v u Q I rx ry h
  obtain ⟨hs, q⟩ := h
  cases x with
  | non =>
    cases rx
    cases y with
    | non => cases ry; exact PySem.EqNone.eq_none_none (fin_bl I q (by simp))
    | bl j => cases ry; exact PySem.EqNone.eq_none_bool (fin_bl I q (by simp))
    | int j => obtain ⟨t', rfl⟩ := ry; exact PySem.EqNone.eq_none_int (fin_bl I q (by simp))
    | str j => obtain ⟨t', rfl⟩ := ry; exact PySem.EqNone.eq_none_str (fin_bl I q (by simp))
    | _ => exact absurd (show false = true from hs) Bool.false_ne_true
  | bl i =>
    cases rx
    cases y with
    | non => cases ry; exact PySem.EqNone.eq_bool_none (fin_bl I q (by simp))
    | bl j => cases ry; exact eq_bool (fin_bl I q dec_bl)
    | str j => obtain ⟨t', rfl⟩ := ry; exact PySem.EqMixed.eq_bool_str (fin_bl I q (by simp))
    | _ => exact absurd (show false = true from hs) Bool.false_ne_true
  | int i =>
    obtain ⟨t, rfl⟩ := rx
    cases y with
    | non => cases ry; exact PySem.EqNone.eq_int_none (fin_bl I q (by simp))
    | int j => obtain ⟨t', rfl⟩ := ry; exact eq_int (fin_bl I q dec_int)
    | str j => obtain ⟨t', rfl⟩ := ry; exact PySem.EqMixed.eq_int_str (fin_bl I q (by simp))
    | _ => exact absurd (show false = true from hs) Bool.false_ne_true
  | str i =>
    obtain ⟨t, rfl⟩ := rx
    cases y with
    | non => cases ry; exact PySem.EqNone.eq_str_none (fin_bl I q (by simp))
    | bl j => cases ry; exact PySem.EqMixed.eq_str_bool (fin_bl I q (by simp))
    | int j => obtain ⟨t', rfl⟩ := ry; exact PySem.EqMixed.eq_str_int (fin_bl I q (by simp))
    | str j => obtain ⟨t', rfl⟩ := ry; exact eq_str (fin_bl I q dec_str)
    | _ => exact absurd (show false = true from hs) Bool.false_ne_true
  | byt i =>
    obtain ⟨t, rfl⟩ := rx
    cases y with
    | byt j => obtain ⟨t', rfl⟩ := ry; exact PySem.W.eq_bytes (fin_bl I q dec_byt)
    | _ => exact absurd (show false = true from hs) Bool.false_ne_true
  | _ => cases y <;> exact absurd (show false = true from hs) Bool.false_ne_true
theorem op_ne : OpR X (compareOp .NotEq) rNe := by
  intro pins s σ H x y v u Q I rx ry h
  obtain ⟨hs, q⟩ := h
  cases x with
  | non =>
    cases rx
    cases y with
    | non => cases ry; exact PySem.EqNone.ne_none_none (fin_bl I q (by simp))
    | bl j => cases ry; exact PySem.EqNone.ne_none_bool (fin_bl I q (by simp))
    | int j => obtain ⟨t', rfl⟩ := ry; exact PySem.EqNone.ne_none_int (fin_bl I q (by simp))
    | str j => obtain ⟨t', rfl⟩ := ry; exact PySem.EqNone.ne_none_str (fin_bl I q (by simp))
    | _ => exact absurd (show false = true from hs) Bool.false_ne_true
  | bl i =>
    cases rx
    cases y with
    | non => cases ry; exact PySem.EqNone.ne_bool_none (fin_bl I q (by simp))
    | bl j => cases ry; exact ne_bool (fin_bl I q (congrArg not dec_bl))
    | str j => obtain ⟨t', rfl⟩ := ry; exact PySem.EqMixed.ne_bool_str (fin_bl I q (by simp))
    | _ => exact absurd (show false = true from hs) Bool.false_ne_true
  | int i =>
    obtain ⟨t, rfl⟩ := rx
    cases y with
    | non => cases ry; exact PySem.EqNone.ne_int_none (fin_bl I q (by simp))
    | int j => obtain ⟨t', rfl⟩ := ry; exact ne_int (fin_bl I q (congrArg not dec_int))
    | str j => obtain ⟨t', rfl⟩ := ry; exact PySem.EqMixed.ne_int_str (fin_bl I q (by simp))
    | _ => exact absurd (show false = true from hs) Bool.false_ne_true
  | str i =>
    obtain ⟨t, rfl⟩ := rx
    cases y with
    | non => cases ry; exact PySem.EqNone.ne_str_none (fin_bl I q (by simp))
    | bl j => cases ry; exact PySem.EqMixed.ne_str_bool (fin_bl I q (by simp))
    | int j => obtain ⟨t', rfl⟩ := ry; exact PySem.EqMixed.ne_str_int (fin_bl I q (by simp))
    | str j => obtain ⟨t', rfl⟩ := ry; exact ne_str (fin_bl I q (congrArg not dec_str))
    | _ => exact absurd (show false = true from hs) Bool.false_ne_true
  | byt i =>
    obtain ⟨t, rfl⟩ := rx
    cases y with
    | byt j => obtain ⟨t', rfl⟩ := ry; exact PySem.W.ne_bytes (fin_bl I q (congrArg not dec_byt))
    | _ => exact absurd (show false = true from hs) Bool.false_ne_true
  | _ => cases y <;> exact absurd (show false = true from hs) Bool.false_ne_true
theorem op_lt : OpR X (compareOp .Lt) (rI0 fun i j => .bl (decide (i < j))) := opB0 fun _ _ _ _ _ _ _ q => lt_int q
theorem op_gt : OpR X (compareOp .Gt) (rI0 fun i j => .bl (decide (j < i))) := opB0 fun _ _ _ _ _ _ _ q => gt_int q
theorem op_in_str : OpR X (compareOp .In) (fun x y H Q => ∃ i j, x = .str i ∧ y = .str j ∧ Q (.bl (!(Builtin.Str.occurrences j i 0 j.length 1).isEmpty)) H) := by
  intro pins s σ H x y v u Q I rx ry h
  obtain ⟨i, j, rfl, rfl, q⟩ := h
  obtain ⟨t, rfl⟩ := rx
  obtain ⟨t', rfl⟩ := ry
  exact in_str (fin_bl I q rfl)
theorem op_isN : OpR X (compareOp .Is) (fun x y H Q => y = .non ∧ Q (.bl (decide (x = .non))) H) := by
  intro pins s σ H x y v u Q I rx ry h
  obtain ⟨rfl, q⟩ := h
  cases ry
  refine is_none_gen (fin_bl I q ?_)
  cases x <;> first
    | (cases rx; rfl)
    | (obtain ⟨t, rfl⟩ := rx; rfl)
theorem op_notN : OpR X (compareOp .IsNot) (fun x y H Q => y = .non ∧ Q (.bl (!decide (x = .non))) H) := by
  intro pins s σ H x y v u Q I rx ry h
  obtain ⟨rfl, q⟩ := h
  cases ry
  refine isnot_none_gen (fin_bl I q ?_)
  cases x <;> first
    | (cases rx; rfl)
    | (obtain ⟨t, rfl⟩ := rx; rfl)
theorem OpR.or {f : Value → Value → Sem Value} {r r' : R2} (h : OpR X f r) (h' : OpR X f r') : OpR X f (fun x y H Q => r x y H Q ∨ r' x y H Q) := by
  intro pins s σ H x y v u Q I rx ry q
  rcases q with q | q
  · exact h pins s σ H x y v u Q I rx ry q
  · exact h' pins s σ H x y v u Q I rx ry q
theorem nomark (b : Expr) {op : CmpOp} (h : op ≠ .In := by decide) (h2 : op ≠ .NotIn := by decide) : behindInMarks op b = false := by
  have e1 : (op == CmpOp.In) = false := by cases op <;> first | rfl | exact absurd rfl h
  have e2 : (op == CmpOp.NotIn) = false := by cases op <;> first | rfl | exact absurd rfl h2
  cases b <;> simp [behindInMarks, e1, e2]
theorem pe_cmpR {op : CmpOp} {r : R2} (ho : OpR X (compareOp op) r) (ha : PE X a ta) (hb : PE X b tb) (hm : behindInMarks op b = false) : PE X (.Compare a [op] [b] pos) (tOp r ta tb) := by
  intro pins s σ H Q I h
  exact wpAny_Compare1 (binT ha hb I h fun v u s2 x y H2 I2 rx ry q => ho pins s2 σ H2 x y v u Q I2 rx ry q) hm
def tTest (t : TE) : TT := fun σ H Q => t σ H fun x H' => ∃ k, x = .bl k ∧ Q k H'
theorem pt_cmpR {op : CmpOp} {r : R2} (ho : OpR X (compareOp op) r) (ha : PE X a ta) (hb : PE X b tb) (hm : behindInMarks op b = false) : PT X (.Compare a [op] [b] pos) (tTest (tOp r ta tb)) := by
  intro pins s σ H Q I h
  refine wpAny_isTrue_Compare1 (thn (ha pins s σ H _ I h) fun v s1 ⟨x, H1, I1, r1, q1⟩ => thn (hb pins s1 σ H1 _ I1 q1) fun u s2 ⟨y, H2, I2, r2, q2⟩ =>
    thn (ho pins s2 σ H2 x y v u _ I2 r1 r2 q2) fun c s3 ⟨z, H3, I3, r3, k, e, q3⟩ => ?_) hm
  subst e
  cases r3
  exact wpAny_truthy_bool ⟨H3, I3, q3⟩
theorem line63 : (sizeLine : Nat) < 2 ^ 63 := by rw [sizeLine_eq]; decide
theorem op_add_str : OpR X (binaryOp .Add) (fun x y H Q => ∃ i j, x = .str i ∧ y = .str j ∧ i.length + j.length ≤ sizeLine ∧ Q (.str (i ++ j)) H) := by
  intro pins s σ H x y v u Q I rx ry h
  obtain ⟨i, j, rfl, rfl, hz, q⟩ := h
  obtain ⟨t, rfl⟩ := rx
  obtain ⟨t', rfl⟩ := ry
  exact add_str (fun t' tk => ⟨.str (i ++ j), H, I.tok _, ⟨_, rfl⟩, q⟩) hz
theorem vals1 {x : V} {us : List Value} (r : Vals [x] us) : ∃ u, us = [u] ∧ RelV x u := by
  cases r with
  | cons r1 r2 => cases r2; exact ⟨_, rfl, r1⟩
theorem call_str_int : CallR X (.type "str") (fun xs H Q => ∃ i, xs = [.int i] ∧ i.natAbs.log2 < 1920 ∧ Q (.str (toString i)) H) := by
  intro pins s σ H xs us Q I r h
  obtain ⟨i, rfl, hz, q⟩ := h
  obtain ⟨u, rfl, t, rfl⟩ := vals1 r
  exact PySem.P.str_of_int hz ⟨.str _, H, I.tok _, ⟨_, rfl⟩, q⟩
end
end L2
namespace L2
open PySem PySem.Spec PyProof.Rows
structure ObjM (h : Heap) (x dx C : Addr) (mA : Str → Option Value) : Prop where
  obj : h.get? x = some (PySem.W.instObj C dx)
  ns : h.Ns1 dx mA
  ne : dx ≠ x
theorem lookIn_ns {h : Heap} {dx : Addr} {mA : Str → Option Value} (n : h.Ns1 dx mA) : ∃ od, h.get? dx = some od ∧ ∀ name, PySem.W.lookIn name od = some (mA name) := by
  obtain ⟨o, es, ep, ho, hd, hk, _, hm⟩ := n
  refine ⟨o, ho, fun name => ?_⟩
  have e := hm name
  unfold nsFind findBy at e
  rw [← Array.find?_toList] at e
  unfold PySem.W.lookIn
  rw [hd]
  dsimp only
  split
  · rename_i y q
    rw [q] at e
    exact congrArg some e
  · rename_i q
    rw [q] at e
    have a : es.toList.any (·.refKey) = false := by
      rw [List.any_eq_false]
      intro y hy
      obtain ⟨z, t, hkey⟩ := hk y (Array.mem_toList_iff.mp hy)
      simp [DictEntry.refKey, hkey]
    have a' : ¬ es.toList.any (·.refKey) = true := by rw [a]; exact Bool.false_ne_true
    rw [if_neg a']
    exact congrArg some e
theorem ObjM.look {h : Heap} {x dx C : Addr} {mA : Str → Option Value} (I : ObjM h x dx C mA) : ∃ od, PySem.W.InstAt h x (PySem.W.instObj C dx) C (some od) ∧ ∀ name, PySem.W.lookIn name od = some (mA name) :=
  let ⟨od, ho, hl⟩ := lookIn_ns I.ns
  ⟨od, ⟨I.obj, rfl, rfl, ho⟩, hl⟩
section
variable {prog : Program} {w : World} {A : Around} {E : Value → Shared → Prop} {s : Shared} {K : PySem.W.Frag} {x dx C f : Addr} {mA : Str → Option Value} {name : Str} {v : Value}
end
theorem RelO.some_of {v : V} {o : Option Value} (r : RelO (some v) o) : ∃ u, o = some u ∧ RelV v u := by
  cases o with
  | none => exact (show False from r).elim
  | some u => exact ⟨u, rfl, r⟩
section
variable {P : Program} {w : World} {H H' : Hp} {h h' : Heap} {a C dx : Addr} {fs fs' : List (Str × V)}
theorem ins_get (hok : HOk P w H h) (e : H a = some (.ins C dx fs)) : ∃ mA, ObjM h a dx C mA ∧ (∀ f, RelO (fs.lookup f) (mA f)) ∧ PySem.Within mA (fs.map (·.1)) ∧ fs.length ≤ 1000 ∧ H dx = some (.own a) := by
  obtain ⟨d, z, ne, ob, mA, n, r, q⟩ := (show ObjOk P w H h a (.ins C dx fs) from hok a _ e)
  exact ⟨mA, ⟨ob, n, ne⟩, r, q, z, d⟩
end
structure Cls (K : PySem.W.Frag) (C : Addr) : Prop where
  pg : PySem.W.plainGet K C Str.empty = true
  hd : PySem.W.hasDictIn K C = true
  po : PySem.W.plainOver K C = true
  sa : PySem.W.findIn K (.ref C) "__setattr__" = some (some (.builtin "object.__setattr__"))
theorem Cls.get {K : PySem.W.Frag} {C : Addr} (c : Cls K C) (f : Str) : PySem.W.plainGet K C f = true := c.pg
structure Con (K : PySem.W.Frag) (C : Addr) (f : Str) (v : V) (u : Value) : Prop where
  at_ : PySem.W.findIn K (.ref C) f = some (some u)
  rel : RelV v u
  get : PySem.W.specialIn K u "__get__" = some none
  cp : PySem.W.copiedNames.contains f = false
structure Meth (K : PySem.W.Frag) (C : Addr) (m : Str) (f : Addr) : Prop where
  at_ : PySem.W.findIn K (.ref C) m = some (some (.ref f))
  fn : PySem.W.isFn K (.ref f) = true
  kp : PySem.W.keepIn K (.ref f) = true
section
variable {X : Cx} {pins : List (Addr × Obj)} {σ : St} {H : Hp} {s : Shared} {a C dx : Addr} {fs : List (Str × V)} {f : Str} {v : V} {A : Around} {E : Value → Shared → Prop}
end
section
variable {X : Cx} {o e value : Expr} {f : Str} {pos pos' tpos : Pos} {ta tv : TE}
end
section
variable {X : Cx} {pins : List (Addr × Obj)} {σ : St} {H : Hp} {s : Shared} {A : Around} {E : Value → Shared → Prop} {Q : Value → Shared → Prop} {c : Value} {b : Bool}
inductive TyOf (K : PySem.W.Frag) (H : Hp) : V → Value → Prop where
  | non : TyOf K H .non (.type "NoneType")
  | bl (x : Bool) : TyOf K H (.bl x) (.type "bool")
  | int (i : Int) : TyOf K H (.int i) (.type "int")
  | str (x : Str) : TyOf K H (.str x) (.type "str")
  | flt (x : UInt64) : TyOf K H (.flt x) (.type "float")
  | lst {a : Addr} {xs : List V} (e : H a = some (.lst xs)) : TyOf K H (.ref a) (.type "list")
  | frz {a : Addr} {o : Obj} {xs : List V} (e : H a = some (.frz o (.lst xs))) : TyOf K H (.ref a) (.type "list")
  | tup {a : Addr} {xs : List V} (e : H a = some (.tup xs)) : TyOf K H (.ref a) (.type "tuple")
  | dK {a : Addr} {kvs : List (Key × V)} (e : H a = some (.dK kvs)) : TyOf K H (.ref a) (.type "dict")
  | dT {a : Addr} {kvs : List (List Key × V)} (e : H a = some (.dT kvs)) : TyOf K H (.ref a) (.type "dict")
  | ins {a C dx : Addr} {fs : List (Str × V)} (e : H a = some (.ins C dx fs)) (cl : Cls K C) (ha : PySem.W.findIn K (.ref C) "__class__" = some (some (.builtin "object.__class__")))
      (hn : PySem.W.specialIn K (.builtin "object.__class__") "__get__" = some (some (.builtin "getset_descriptor.__get__"))) (htk : PySem.W.takesIn K (.builtin "object.__class__") = some true)
      (hm : PySem.W.mroIn K C (.type "object") = some true) : TyOf K H (.ref a) (.ref C)
theorem isinst_ok {x : V} {u t : Value} (I : Inv X pins σ H s) (rx : RelV x u) (ty : TyOf X.K H x t) (e : PySem.W.kitOne X.K t c = some b) (h : ∀ tk, Q (.bool b) { s with toks := tk }) :
    wpAny (model X.prog X.w) A (call (.builtin "isinstance") [u, c]) Q E s := by
  cases ty with
  | non => cases (show u = Value.none from rx); exact PySem.W.kia_one PySem.W.kitx_none I.kIn True.intro e (fun z => nomatch z) h
  | bl y => cases (show u = Value.bool y from rx); exact PySem.W.kia_one PySem.W.kitx_bool I.kIn True.intro e (fun z => nomatch z) h
  | int i => obtain ⟨t, q⟩ := (show ∃ t, u = Value.int i t from rx); cases q; exact PySem.W.kia_one PySem.W.kitx_int I.kIn True.intro e (fun z => nomatch z) h
  | str y => obtain ⟨t, q⟩ := (show ∃ t, u = Value.str y t from rx); cases q; exact PySem.W.kia_one PySem.W.kitx_str I.kIn True.intro e (fun z => nomatch z) h
  | flt y => obtain ⟨t, q⟩ := (show ∃ t, u = Value.float y t from rx); cases q; exact PySem.W.kia_one PySem.W.kitx_float I.kIn True.intro e (fun z => nomatch z) h
  | @lst a xs ea =>
    cases (show u = Value.ref a from rx)
    obtain ⟨_, _, n, _, h1⟩ := (show ObjOk X.prog X.w H s.heap a (.lst xs) from I.hok a _ ea)
    exact PySem.W.kia_one PySem.W.kitx_list I.kIn ⟨_, h1, rfl⟩ e (fun z => nomatch z) h
  | @frz a ob xs ea =>
    cases (show u = Value.ref a from rx)
    obtain ⟨_, _, _, n, _, h1⟩ := (show ObjOk X.prog X.w H s.heap a (.frz ob (.lst xs)) from I.hok a _ ea)
    exact PySem.W.kia_one PySem.W.kitx_list I.kIn ⟨_, h1, rfl⟩ e (fun z => nomatch z) h
  | @tup a xs ea =>
    cases (show u = Value.ref a from rx)
    obtain ⟨_, _, _, p⟩ := (show ObjOk X.prog X.w H s.heap a (.tup xs) from I.hok a _ ea)
    obtain ⟨o, h1, h2, _⟩ := p
    exact PySem.W.kia_one PySem.W.kitx_tuple I.kIn ⟨o, h1, h2⟩ e (fun z => nomatch z) h
  | @dK a kvs ea =>
    cases (show u = Value.ref a from rx)
    obtain ⟨_, _, vs, _, p⟩ := (show ObjOk X.prog X.w H s.heap a (.dK kvs) from I.hok a _ ea)
    obtain ⟨o, es, ep, h1, h2, _⟩ := p
    exact PySem.W.kia_one PySem.W.kitx_dict I.kIn ⟨o, h1, h2.1⟩ e (fun z => nomatch z) h
  | @dT a kvs ea =>
    cases (show u = Value.ref a from rx)
    obtain ⟨_, _, xs, _, o, es, ep, h1, h2, _⟩ := (show ObjOk X.prog X.w H s.heap a (.dT kvs) from I.hok a _ ea)
    exact PySem.W.kia_one PySem.W.kitx_dict I.kIn ⟨o, h1, h2.1⟩ e (fun z => nomatch z) h
  | @ins a C dx fs ea cl ha hn htk hm =>
    cases (show u = Value.ref a from rx)
    obtain ⟨mA, O, _⟩ := ins_get I.hok ea
    obtain ⟨od, J, _⟩ := O.look
    exact PySem.W.kia_one (PySem.W.kitx_own (cl.get _) cl.hd ha hn htk hm) I.kIn J e (fun z => nomatch z) h
end
end L2
namespace L2
open PySem PySem.Spec PyProof.Rows
structure Room (k : Nat) (A : Around) : Prop where
  hd : A.handled = none
  dp : A.depth + 3 * k + 5 < recursionLimit
  un : A.units + 16 * k + 200 < cLine
theorem Room.mono {j k : Nat} {A : Around} (r : Room k A) (h : j ≤ k) : Room j A := ⟨r.hd, by have := r.dp; omega, by have := r.un; omega⟩
theorem Room.deeper {k : Nat} {A : Around} (r : Room (k + 1) A) (env : Env) : Room k (A.deeper env) :=
  ⟨r.hd, by have := r.dp; show A.depth + 1 + 3 * k + 5 < _; omega, by have := r.un; show A.units + 3 + 16 * k + 200 < _; omega⟩
theorem Room.in1 {k : Nat} {A : Around} (r : Room (k + 1) A) : Room k A.in1 :=
  ⟨r.hd, by have := r.dp; show A.depth + 3 * k + 5 < _; omega, by have := r.un; show A.units + 1 + 16 * k + 200 < _; omega⟩
theorem Room.depth {k : Nat} {A : Around} (r : Room k A) : A.depth < recursionLimit := by have := r.dp; omega
theorem Room.units {k : Nat} {A : Around} (r : Room k A) : A.units + 64 < cLine := by have := r.un; omega
def tNil : TA := fun _ H Q => Q [] H
def tCons (ta : TE) (tr : TA) : TA := fun σ H Q => ta σ H fun x H1 => tr σ H1 fun xs H2 => Q (x :: xs) H2
section
variable {X : Cx} {e : Expr} {es : List Expr} {te : TE} {t : TA} {pos : Pos}
theorem pa_nil : PA X [] tNil := fun _ _ _ _ H Q I h => Calls.spliced_nil ⟨[], H, I, .nil, h⟩
theorem pa_cons (ha : PE X e te) (hr : PA X es t) (hs : starEach (e :: es) X.env = (false, eval e X.env) :: starEach es X.env := by rfl) : PA X (e :: es) (tCons te t) := by
  intro pos pins s σ H Q I h
  rw [hs]
  show wpAny _ _ (spliced ((false, eval e X.env) :: backTo pos (starEach es X.env))) _ _ s
  refine Calls.spliced_cons (thn (ha pins s σ H _ I h) fun u s1 ⟨x, H1, I1, r1, q1⟩ => ?_)
  exact thn (hr pos pins s1 σ H1 _ I1 q1) fun us s2 ⟨xs, H2, I2, r2, q2⟩ => ⟨x :: xs, H2, I2, .cons r1 r2, q2⟩
def tTup (t : TA) : TE := fun σ H Q => t σ H fun xs H1 => xs.length ≤ sizeLine ∧ ∀ p, H1 p = none → Q (.ref p) (upd H1 p (.tup xs))
def tLst (t : TA) : TE := fun σ H Q => t σ H fun xs H1 => xs.length ≤ sizeLine ∧ ∀ p, H1 p = none → Q (.ref p) (upd H1 p (.lst xs))
theorem pe_tup {x1} (h : PA X es t) : PE X (.Tuple es x1 pos) (tTup t) := by
  intro pins s σ H Q I hq
  refine wpAny_Tuple_spliced (thn (h pos pins s σ H _ I hq) fun us s1 ⟨xs, H1, I1, r, z, q⟩ => ⟨by rw [← r.length]; exact z, ?_⟩)
  have hf : H1 s1.heap.objs.size = none := I1.hok.fresh (Nat.le_refl _)
  refine ⟨.ref s1.heap.objs.size, upd H1 s1.heap.objs.size (.tup xs), I1.laid (t' := s1.toks) (fun b u e => Heap.get?_push_of_some _ e) (Nat.le_refl _) ?_, rfl, q _ hf⟩
  exact ⟨z, us, r, ⟨_, Heap.get?_push_size _ rfl, rfl, _, rfl⟩⟩
theorem pe_lst (h : PA X es t) : PE X (.List es pos) (tLst t) := by
  intro pins s σ H Q I hq
  refine wpAny_List_spliced (thn (h pos pins s σ H _ I hq) fun us s1 ⟨xs, H1, I1, r, z, q⟩ => ⟨by rw [← r.length]; exact z, ?_⟩)
  have hf : H1 s1.heap.objs.size = none := I1.hok.fresh (Nat.le_refl _)
  refine ⟨.ref s1.heap.objs.size, upd H1 s1.heap.objs.size (.lst xs), I1.laid (t' := s1.toks) (fun b u e => Heap.get?_push_of_some _ e) (Nat.le_refl _) ?_, rfl, q _ hf⟩
  exact ⟨z, us, 0, r, Heap.get?_push_size _ rfl⟩
end
abbrev Sp := List V → Hp → VK → XK → Prop
abbrev CXT := List Env → Hp → Shared → XK → Value → Shared → Prop
structure Env0 (P : Program) (w : World) (K : PySem.W.Frag) (mg : Str → Option Value) (base : Heap) (A : Around) (outer : List Env) (s : Shared) (H : Hp) : Prop where
  frames : A.frames = some outer
  mod : Mod K mg base
  bs : ∀ b o, base.get? b = some o → s.heap.get? b = some o ∧ H b = none
  bsz : base.objs.size ≤ s.heap.objs.size
  funs : s.heap.FunFrames base outer
  frf : ∀ b ∈ frs outer, H b = none
  hok : HOk P w H s.heap
  bare : AllBare s.gens
def CE (outer : List Env) (P : Program) (w : World) (H : Hp) (s : Shared) (Q : VK) (u : Value) (s' : Shared) : Prop :=
  ∃ v H', s'.os = s.os ∧ AllBare s'.gens ∧ Un (frs outer) [] H H' s.heap s'.heap ∧ HOk P w H' s'.heap ∧ RelV v u ∧ Q v H'
def CR (CX : CXT) (outer : List Env) (P : Program) (w : World) (H : Hp) (s : Shared) (Q : VK) (E : XK) (r : Result) (s' : Shared) : Prop :=
  match r with
  | .ok (.ret u) => CE outer P w H s Q u s'
  | .ok _ => False
  | .error e => CX outer H s E e s'
structure FnOk (P : Program) (w : World) (K : PySem.W.Frag) (mg : Str → Option Value) (base : Heap) (CX : CXT) (k : Nat) (f : Addr) (fd : FuncData) (ps : List Str) (sp : Sp) : Prop where
  len : ∀ vs H Q E, sp vs H Q E → vs.length = ps.length
  run : ∀ (A : Around) (outer : List Env) (s : Shared) (H : Hp) (args : Args) (us : List Value) (vs : List V) (Q : VK) (E : XK), Room k A → Env0 P w K mg base A outer s H → BindsTo s fd args (ps.zip us) → Vals vs us → sp vs H Q E →
    codeAny (model P w) A (.call (.ref f) args) (CR CX outer P w H s Q E) s
theorem FnOk.mono {P : Program} {w : World} {K : PySem.W.Frag} {mg : Str → Option Value} {base : Heap} {CX : CXT} {j k : Nat} {f : Addr} {fd : FuncData} {ps : List Str} {sp : Sp} (F : FnOk P w K mg base CX j f fd ps sp) (h : j ≤ k) :
    FnOk P w K mg base CX k f fd ps sp := ⟨F.len, fun A outer s H args us vs Q E hr => F.run A outer s H args us vs Q E (hr.mono h)⟩
theorem FnOk.imp {P : Program} {w : World} {K : PySem.W.Frag} {mg : Str → Option Value} {base : Heap} {CX : CXT} {k : Nat} {f : Addr} {fd : FuncData} {ps : List Str} {sp sp' : Sp} (F : FnOk P w K mg base CX k f fd ps sp)
    (h : ∀ vs H Q E, sp' vs H Q E → sp vs H Q E) : FnOk P w K mg base CX k f fd ps sp' :=
  ⟨fun vs H Q E q => F.len vs H Q E (h _ _ _ _ q), fun A outer s H args us vs Q E hr he hb hv hs => F.run A outer s H args us vs Q E hr he hb hv (h _ _ _ _ hs)⟩
theorem Env0.in1 {P : Program} {w : World} {K : PySem.W.Frag} {mg : Str → Option Value} {base : Heap} {A : Around} {outer : List Env} {s : Shared} {H : Hp} (e : Env0 P w K mg base A outer s H) :
    Env0 P w K mg base A.in1 outer s H := ⟨e.frames, e.mod, e.bs, e.bsz, e.funs, e.frf, e.hok, e.bare⟩
section
variable {X : Cx} {pins : List (Addr × Obj)} {σ : St} {H : Hp} {s s' : Shared}
theorem Inv.env0 (I : Inv X pins σ H s) : Env0 X.prog X.w X.K X.mg X.base X.A X.stack s H :=
  ⟨I.ok.frames, I.ok.mod, I.bs, Nat.le_trans I.ok.bsz I.sz, I.stack, I.stkFree, I.hok, I.bare⟩
theorem Inv.after {Q : VK} {u : Value} (I : Inv X pins σ H s) (h : CE X.stack X.prog X.w H s Q u s') : EP X pins σ Q u s' := by
  obtain ⟨v, H', os, bare, un, hok, r, q⟩ := h
  obtain ⟨hh, g, d, t, os'⟩ := s'
  obtain rfl : os' = s.os := os
  exact ⟨v, H', I.call (h' := hh) (g' := g) (d' := d) (t' := t) (ch := []) un hok bare (fun b z => absurd z (by simp)), r, q⟩
end
def tCall (sp : Sp) (dvs : List V) (E : XK) (t : TA) : TE := fun σ H Q => t σ H fun vs H1 => sp (vs ++ dvs) H1 Q E
def Binds (K : PySem.W.Frag) (fd : FuncData) (ps : List Str) (ds : List Value) : Prop :=
  ∀ (s : Shared) (us : List Value), K.In s.heap → (us ++ ds).length = ps.length → BindsTo s fd ⟨us, []⟩ (ps.zip (us ++ ds))
theorem Binds.all {K : PySem.W.Frag} {fd : FuncData} {ps : List Str} (h : ∀ us : List Value, us.length = ps.length → bindArgs fd ⟨us, []⟩ = pure (ps.zip us)) : Binds K fd ps [] := fun s us _ hl => by
  rw [List.append_nil] at hl ⊢
  exact .of_eq (h us hl)
def Passes (CX : CXT) (X : Cx) (E : XK) : Prop := ∀ (pins : List (Addr × Obj)) (σ : St) (H : Hp) (s : Shared) (e : Value) (s' : Shared), Inv X pins σ H s → CX X.stack H s E e s' → X.xe e s'
section
variable {X : Cx} {CX : CXT} {k : Nat} {f C : Addr} {fd : FuncData} {ps : List Str} {sp : Sp} {dvs : List V} {ds : List Value} {E : XK} {x m : Str} {p pos apos : Pos} {e o : Expr} {es : List Expr} {ta : TE} {t : TA}
theorem run_fn {pins : List (Addr × Obj)} {σ : St} {H : Hp} {s : Shared} {Q : VK} {us : List Value} {vs : List V} (F : FnOk X.prog X.w X.K X.mg X.base CX k f fd ps sp) (hr : Room k X.A) (hb : Binds X.K fd ps ds) (hd : Vals dvs ds) (hx : Passes CX X E)
    (I : Inv X pins σ H s) (r : Vals vs us) (h : sp (vs ++ dvs) H Q E) : wpAny (model X.prog X.w) X.A (call (.ref f) us) (EP X pins σ Q) X.xe s := by
  have r2 : Vals (vs ++ dvs) (us ++ ds) := r.append hd
  have hl : (us ++ ds).length = ps.length := by rw [← r2.length]; exact F.len _ _ _ _ h
  refine wpAny_call (codeAny_mono (F.run X.A X.stack s H ⟨us, []⟩ (us ++ ds) (vs ++ dvs) Q E hr I.env0 (hb s us I.kIn hl) r2 h) fun r s' hq => ?_)
  cases r with
  | error e => exact hx pins σ H s e s' I hq
  | ok fl =>
    cases fl with
    | ret u => exact I.after hq
    | next => exact False.elim hq
    | brk => exact False.elim hq
    | cont => exact False.elim hq
theorem pe_call (F : FnOk X.prog X.w X.K X.mg X.base CX k f fd ps sp) (hr : Room k X.A) (hg : Gl X x) (hm : X.mg x = some (.ref f)) (hk : PySem.W.keepIn X.K (.ref f) = true) (hb : Binds X.K fd ps ds) (hd : Vals dvs ds) (hx : Passes CX X E)
    (ha : PA X (e :: es) t) (hdb : (x == ("__debug__" : Str)) = false := by decide) (he : starEach (e :: es) X.env = (false, eval e X.env) :: starEach es X.env := by rfl) (hpl : (backTo pos (starEach es X.env)).any (·.1) = false := by rfl) :
    PE X (.Call (.Name x p) (e :: es) [] pos) (tCall sp dvs E t) := by
  intro pins s σ H Q I h
  refine wpAny_Call_Name_kw (ld_glob I hg hm ?_ hdb)
  refine PySem.W.callWith_K (h₀ := X.base) I.ok.mod.kin hk (thn (ha pos pins s σ H _ I h) fun us s1 ⟨vs, H1, I1, r, q⟩ => ⟨I1.kIn, ?_⟩) he hpl
  exact run_fn F hr hb hd hx I1 r q
structure Mk (K : PySem.W.Frag) (C f : Addr) : Prop where
  makes : PySem.W.makesIn K C = true
  init : PySem.W.findIn K (.ref C) "__init__" = some (some (.ref f))
  fn : PySem.W.isFn K (.ref f) = true
  kp : PySem.W.keepIn K (.ref C) = true
end
section
variable {X : Cx} {CX : CXT} {k : Nat} {f C : Addr} {fd : FuncData} {ps ks : List Str} {sp : Sp} {E : XK} {x m : Str} {p pos apos kpos : Pos} {e o : Expr} {es : List Expr} {kws : List Keyword} {te ta : TE} {t tk : TA} {nm : Option Str}
structure KBinds (K : PySem.W.Frag) (fd : FuncData) (ps ks : List Str) (g : List Value → List Value → List Value) (gV : List V → List V → List V) : Prop where
  to : ∀ (s : Shared) (us ws : List Value), K.In s.heap → (g us ws).length = ps.length → BindsTo s fd ⟨us, ks.zip ws⟩ (ps.zip (g us ws))
  rel : ∀ {vs : List V} {us : List Value} {zs : List V} {ws : List Value}, Vals vs us → Vals zs ws → Vals (gV vs zs) (g us ws)
variable {g : List Value → List Value → List Value} {gV : List V → List V → List V}
end
structure FnScope (N P : List Str) (sc : Scope) : Prop where
  kind : sc.kind = .function
  co : sc.isCoroutine = false
  gen : sc.isGenerator = false
  nd : N.Nodup
  pre : N.take P.length = P
  par : ∀ x ∈ P, sc.names.lookup x = some .local ∨ sc.names.lookup x = some .cell
  nofree : ∀ y ∈ sc.names, y.2 ≠ .free
theorem bindL_out {kindOf : Str → Option NameKind} {x : Str} : ∀ {binds : List (Str × Value)} {m : Str → Option Value}, (∀ v, (x, v) ∉ binds) → bindL kindOf binds m x = m x
  | [], _, _ => rfl
  | (n, v) :: r, m, h => by
    unfold bindL
    rw [bindL_out fun w hw => h w (List.mem_cons_of_mem _ hw)]
    split
    · have : x ≠ n := by rintro rfl; exact h v List.mem_cons_self
      simp [this]
    · rfl
theorem bindC_out {kindOf : Str → Option NameKind} {x : Str} : ∀ {binds : List (Str × Value)} {m : Str → Option Value}, (∀ v, (x, v) ∉ binds) → bindC kindOf binds m x = m x
  | [], _, _ => rfl
  | (n, v) :: r, m, h => by
    unfold bindC
    rw [bindC_out fun w hw => h w (List.mem_cons_of_mem _ hw)]
    split
    · rfl
    · have : x ≠ n := by rintro rfl; exact h v List.mem_cons_self
      simp [this]
theorem bindL_get {kindOf : Str → Option NameKind} {x : Str} {v : Value} : ∀ {P : List Str} {vs : List Value} {i : Nat} {m : Str → Option Value}, P.Nodup → P[i]? = some x → vs[i]? = some v → kindOf x = some .local →
    bindL kindOf (P.zip vs) m x = some v
  | [], _, _, _, _, h, _, _ => by simp at h
  | _ :: _, [], _, _, _, _, h, _ => by simp at h
  | p :: P, w :: vs, 0, m, nd, h1, h2, hk => by
    simp at h1 h2; subst h1; subst h2
    show bindL kindOf ((p, w) :: P.zip vs) m p = _
    unfold bindL
    rw [bindL_out fun v hv => (List.nodup_cons.mp nd).1 (List.of_mem_zip hv).1, if_pos hk]
    simp
  | p :: P, w :: vs, i + 1, m, nd, h1, h2, hk => by
    show bindL kindOf ((p, w) :: P.zip vs) m x = _
    unfold bindL
    exact bindL_get (i := i) (List.nodup_cons.mp nd).2 (by simpa using h1) (by simpa using h2) hk
theorem bindC_get {kindOf : Str → Option NameKind} {x : Str} {v : Value} : ∀ {P : List Str} {vs : List Value} {i : Nat} {m : Str → Option Value}, P.Nodup → P[i]? = some x → vs[i]? = some v → kindOf x ≠ some .local →
    bindC kindOf (P.zip vs) m x = some v
  | [], _, _, _, _, h, _, _ => by simp at h
  | _ :: _, [], _, _, _, _, h, _ => by simp at h
  | p :: P, w :: vs, 0, m, nd, h1, h2, hk => by
    simp at h1 h2; subst h1; subst h2
    show bindC kindOf ((p, w) :: P.zip vs) m p = _
    unfold bindC
    rw [bindC_out fun v hv => (List.nodup_cons.mp nd).1 (List.of_mem_zip hv).1, if_neg hk]
    simp
  | p :: P, w :: vs, i + 1, m, nd, h1, h2, hk => by
    show bindC kindOf ((p, w) :: P.zip vs) m x = _
    unfold bindC
    exact bindC_get (i := i) (List.nodup_cons.mp nd).2 (by simpa using h1) (by simpa using h2) hk
def start (N : List Str) (vs : List V) : St := vs.map some ++ List.replicate (N.length - vs.length) none
def cxOf (CX : CXT) (P : Program) (w : World) (K : PySem.W.Frag) (mg : Str → Option Value) (base : Heap) (N : List Str) (qual : Str) (scope : Scope) (f : Addr) (cd : Value) (A : Around) (outer : List Env) (s : Shared) (H : Hp) (E : XK) : Cx where
  prog := P
  w := w
  K := K
  mg := mg
  base := base
  A := A.deeper (envOfC qual scope s.heap.objs.size f cd)
  N := N
  s₀ := s
  H₀ := H
  env := envOfC qual scope s.heap.objs.size f cd
  outer := outer
  stack := envOfC qual scope s.heap.objs.size f cd :: outer
  ex := []
  calm := true
  fn := fun _ => true
  pn := []
  xe := fun e s' => wpAny (model P w) (A.deeper (envOfC qual scope s.heap.objs.size f cd)) (leaving (envOfC qual scope s.heap.objs.size f cd) e) (fun _ s'' => CX outer H s E e s'') (fun e' s'' => CX outer H s E e' s'') s'
theorem cell_has {sc : Scope} {n : Nat} {x : Str} (h : sc.names.lookup x = some .cell) : ∃ c, (cellsFrom n sc.names []).lookup x = some c := by
  have q := PySem.W.cellsFrom_some sc.names n [] (.inl h)
  exact Option.isSome_iff_exists.mp q
theorem inv_start {CX : CXT} {P : Program} {w : World} {K : PySem.W.Frag} {mg : Str → Option Value} {base : Heap} {N ps : List Str} {qual : Str} {scope : Scope} {f : Addr} {cd : Value} {A : Around} {outer : List Env} {s s1 : Shared} {H : Hp} {E : XK} {us : List Value} {vs : List V}
    (S : FnScope N ps scope) (hd : A.handled = none) (e0 : Env0 P w K mg base A outer s H) (hl : vs.length = ps.length) (r : Vals vs us)
    (x : InCallC s s.heap.objs.size (bindL (envOfC qual scope s.heap.objs.size f cd).kindOf (ps.zip us) fun _ => none) (cellsFrom (s.heap.objs.size + 1) scope.names []) (bindC (envOfC qual scope s.heap.objs.size f cd).kindOf (ps.zip us) fun _ => none) s1) :
    Inv (cxOf CX P w K mg base N qual scope f cd A outer s H E) [] (start N vs) H s1 := by
  have hpl : ps.length ≤ N.length := by have := congrArg List.length S.pre; rw [List.length_take] at this; omega
  obtain ⟨h1, tk, rfl, hk⟩ := x.done
  have noA : ∀ b : Addr, b ∉ (cxOf CX P w K mg base N qual scope f cd A outer s H E).ex := fun b z => absurd (show b ∈ ([] : List Addr) from z) (by simp)
  refine ⟨⟨e0.mod, S.kind, rfl, rfl, Nat.le_refl _, fun y z c h1 h2 => ?_, fun y hy => ?_, fun y c _ h => ?_, fun _ => hd, Around.frames_deeper e0.frames, .inr ⟨rfl, rfl⟩, fun b z => absurd z (noA b), e0.bs, e0.bsz, fun b _ _ => noA b, fun b z => absurd z (noA b), e0.funs, e0.frf⟩,
    rfl, e0.bare, Un.kept hk, ⟨_, x.toInCall.ns, fun i y v h1 h2 h3 => ?_⟩, fun y c h => ⟨_, x.cell y c h⟩, e0.hok.fresh (Nat.le_refl _), fun y c h => ?_, fun p hp => absurd (show p ∈ ([] : List (Addr × Obj)) from hp) (by simp), e0.hok.kept hk, ?_⟩
  · exact name_of_addr x.apart (PySem.mem_of_lookup h1) (PySem.mem_of_lookup h2)
  · have hy : scope.names.lookup y = some .cell ∨ scope.names.lookup y = some .free := hy
    rcases hy with hy | hy
    · exact cell_has hy
    · exact absurd rfl (S.nofree _ (PySem.mem_of_lookup hy))
  · exact Nat.le_of_lt (x.above y c (PySem.mem_of_lookup h))
  · have hi : i < vs.length := by
      unfold start at h2
      by_cases hi : i < vs.length
      · exact hi
      · rw [List.getElem?_append_right (by simpa using hi)] at h2
        rw [List.getElem?_replicate] at h2
        split at h2 <;> cases h2
    have ha : vs[i]? = some v := by
      unfold start at h2
      rw [List.getElem?_append_left (by simpa using hi), List.getElem?_map] at h2
      cases e : vs[i]? with
      | none => rw [e] at h2; cases h2
      | some a => rw [e] at h2; cases h2; rfl
    obtain ⟨u, hu, rv⟩ := r.get ha
    have hp : ps[i]? = some y := by
      rw [← S.pre, List.getElem?_take_of_lt (by omega)]; exact h1
    have ndP : ps.Nodup := by rw [← S.pre]; exact S.nd.sublist (List.take_sublist _ _)
    refine ⟨u, rv, ?_⟩
    rcases S.par y (List.mem_of_getElem? hp) with k | k
    · exact .inl ⟨k, bindL_get ndP hp hu k⟩
    · obtain ⟨c, e⟩ := cell_has (n := s.heap.objs.size + 1) k
      refine .inr ⟨.inl k, c, e, ?_⟩
      have q := x.cell y c e
      rw [bindC_get ndP hp hu (by show scope.names.lookup y ≠ _; rw [k]; decide)] at q
      exact q
  · exact e0.hok.fresh (Nat.le_of_lt (x.above y c (PySem.mem_of_lookup h)))
  · unfold start
    show _ = N.length
    rw [List.length_append, List.length_map, List.length_replicate]
    omega
theorem fn_of {CX : CXT} {P : Program} {w : World} {K : PySem.W.Frag} {mg : Str → Option Value} {base : Heap} {k : Nat} {f : Addr} {name qual : Str} {params : Arguments} {body : List Stmt} {scope : Scope} {dV kV doc pm cdv ct oc : Value} {an od : Option Addr}
    {osl : Array (Option Value)} {N ps : List Str} {sp : Sp} (lk : K.lookup f = some ⟨oc, od, .func (PySem.W.fnOf name qual params body scope dV kV doc pm an cdv ct), osl⟩) (hcd : PySem.W.codeIn K cdv qual = true) (S : FnScope N ps scope)
    (len : ∀ vs H Q E, sp vs H Q E → vs.length = ps.length)
    (hbody : ∀ (A : Around) (outer : List Env) (s : Shared) (H : Hp) (vs : List V) (Q : VK) (E : XK), Room k (A.deeper (envOfC qual scope s.heap.objs.size f cdv)) → sp vs H Q E →
      ∃ t, PSs (cxOf CX P w K mg base N qual scope f cdv A outer s H E) body t ∧ t { nx := fun _ H' => Q .non H', rt := Q } (start N vs) H) :
    FnOk P w K mg base CX (k + 1) f (PySem.W.fnOf name qual params body scope dV kV doc pm an cdv ct) ps sp := by
  refine ⟨len, fun A outer s H args us vs Q E hr e0 hb r hsp => ?_⟩
  have hl := len _ _ _ _ hsp
  have KX : K.In s.heap := e0.mod.kin.keeps fun b o e => (e0.bs b o e).1
  have lim : s.heap.NoLimit := e0.mod.nolimit.keeps fun b o e => (e0.bs b o e).1
  have hkind : ∀ y ∈ ps.zip us, scope.names.lookup y.1 = some .local ∨ (scope.names.lookup y.1 = some .cell ∧ ((cellsFrom (s.heap.objs.size + 1) scope.names []).lookup y.1).isSome = true) := fun ⟨n, v⟩ hy => by
    rcases S.par n (List.of_mem_zip hy).1 with q | q
    · exact .inl q
    · exact .inr ⟨q, PySem.W.cellsFrom_some _ _ _ (.inl q)⟩
  refine codeAny_call_function hr.depth (KX _ _ lk) rfl S.co S.gen rfl (PySem.W.codeRec_of KX hcd) (hb _ _ _ _ ?_)
  refine wpAny_newFunctionEnv_cells S.kind hkind fun env he s1 x => ?_
  subst he
  refine ⟨lim.keeps x.toInCall.keep, codeAny_func ?_⟩
  obtain ⟨t, ht, hq⟩ := hbody A outer s H vs Q E (hr.deeper _) hsp
  have I : Inv (cxOf CX P w K mg base N qual scope f cdv A outer s H E) [] (start N vs) H s1 := inv_start S hr.hd e0 hl r x
  refine wpAny_mono (ht [] s1 (start N vs) H _ I hq) (fun fl s' hs => ?_) fun e s' hs => hs
  have fin : ∀ {σ' : St} {H' : Hp} {v : V} {u : Value}, Inv (cxOf CX P w K mg base N qual scope f cdv A outer s H E) [] σ' H' s' → RelV v u → Q v H' → CE outer P w H s Q u s' :=
    fun {σ' H' v u} J rv q => ⟨v, H', J.os, J.bare, J.base, J.hok, rv, q⟩
  cases fl with
  | ret u =>
    obtain ⟨v, σ', H', J, rv, q⟩ := hs
    exact fin J rv q
  | next =>
    obtain ⟨σ', H', J, q⟩ := hs
    exact fin (v := V.non) (u := Value.none) J rfl q
  | brk =>
    obtain ⟨_, _, _, q⟩ := hs
    exact False.elim q
  | cont =>
    obtain ⟨_, _, _, q⟩ := hs
    exact False.elim q
end L2
namespace L2
open PySem PySem.Spec PyProof.Rows
section
variable {X : Cx} {x : Str} {p pos : Pos} {e : Expr} {es : List Expr} {t : TA} {id T : String} {r : List V → Hp → VK → Prop}
def tCB (r : List V → Hp → VK → Prop) (t : TA) : TE := fun σ H Q => t σ H fun vs H1 => r vs H1 Q
theorem pe_callB (hc : CallR X (.builtin id) r) (hg : Gl X x) (hm : X.mg x = none) (hv : bootBuiltins x = some (.builtin id)) (ha : PA X (e :: es) t) (hn : x ≠ "__name__" := by decide) (hdb : (x == ("__debug__" : Str)) = false := by decide)
    (he : starEach (e :: es) X.env = (false, eval e X.env) :: starEach es X.env := by rfl) (hpl : (backTo pos (starEach es X.env)).any (·.1) = false := by rfl) : PE X (.Call (.Name x p) (e :: es) [] pos) (tCB r t) := by
  intro pins s σ H Q I h
  refine wpAny_Call_Name_kw (ld_blt I hg hm hv ?_ hn hdb)
  exact PyProof.Rows.callWith_builtin1 (thn (ha pos pins s σ H _ I h) fun us s1 ⟨vs, H1, I1, r1, q1⟩ => hc pins s1 σ H1 vs us Q I1 r1 q1) he hpl
theorem pe_callTy (hc : CallR X (.type T) r) (hg : Gl X x) (hm : X.mg x = none) (hv : bootBuiltins x = some (.type T)) (ha : PA X (e :: es) t) (hn : x ≠ "__name__" := by decide) (hdb : (x == ("__debug__" : Str)) = false := by decide)
    (he : starEach (e :: es) X.env = (false, eval e X.env) :: starEach es X.env := by rfl) (hpl : (backTo pos (starEach es X.env)).any (·.1) = false := by rfl) : PE X (.Call (.Name x p) (e :: es) [] pos) (tCB r t) := by
  intro pins s σ H Q I h
  refine wpAny_Call_Name_kw (ld_blt I hg hm hv ?_ hn hdb)
  exact PyProof.Rows.callWith_type1 (thn (ha pos pins s σ H _ I h) fun us s1 ⟨vs, H1, I1, r1, q1⟩ => hc pins s1 σ H1 vs us Q I1 r1 q1) he hpl
end
end L2
namespace L2
open PySem PySem.Spec PyProof.Rows
section
variable {κ : Type} [DecidableEq κ]
def valV (kvs : List (κ × V)) (k : κ) : Option V := (kvs.find? fun kv => decide (kv.1 = k)).map (·.2)
def putK (kvs : List (κ × V)) (k : κ) (v : V) : List (κ × V) :=
  if (kvs.any fun kv => decide (kv.1 = k)) = true then kvs.map (fun kv => if kv.1 = k then (kv.1, v) else kv) else kvs ++ [(k, v)]
def dropK (kvs : List (κ × V)) (k : κ) : List (κ × V) := kvs.filter fun kv => decide (kv.1 ≠ k)
theorem valV_pos {p : κ × V} {r : List (κ × V)} {k : κ} (e : p.1 = k) : valV (p :: r) k = some p.2 := by simp [valV, List.find?_cons, e]
theorem valV_neg {p : κ × V} {r : List (κ × V)} {k : κ} (e : ¬ p.1 = k) : valV (p :: r) k = valV r k := by simp [valV, List.find?_cons, e]
theorem valV_any (k : κ) : ∀ kvs : List (κ × V), (kvs.any fun kv => decide (kv.1 = k)) = (valV kvs k).isSome
  | [] => rfl
  | p :: r => by
    rw [List.any_cons]
    by_cases e : p.1 = k
    · simp only [valV_pos e, decide_eq_true e, Bool.true_or, Option.isSome_some]
    · rw [valV_neg e, decide_eq_false e, Bool.false_or]; exact valV_any k r
theorem valV_map (k j : κ) (y : V) : ∀ kvs : List (κ × V), valV (kvs.map fun kv => if kv.1 = k then (kv.1, y) else kv) j = (valV kvs j).map fun x => if j = k then y else x
  | [] => rfl
  | p :: r => by
    have ih := valV_map k j y r
    rw [List.map_cons]
    by_cases h : p.1 = k
    · rw [if_pos h]
      by_cases e : p.1 = j
      · rw [valV_pos (p := (p.1, y)) e, valV_pos e, Option.map_some, if_pos (e.symm.trans h)]
      · rw [valV_neg (p := (p.1, y)) e, valV_neg e, ih]
    · rw [if_neg h]
      by_cases e : p.1 = j
      · rw [valV_pos (p := p) e, valV_pos e, Option.map_some, if_neg (fun z => h (e.trans z))]
      · rw [valV_neg (p := p) e, valV_neg e, ih]
theorem valV_snoc (k j : κ) (y : V) : ∀ kvs : List (κ × V), valV kvs k = none → valV (kvs ++ [(k, y)]) j = if j = k then some y else valV kvs j
  | [], _ => by
    by_cases e : k = j
    · rw [if_pos e.symm]; exact valV_pos (p := (k, y)) e
    · rw [if_neg (fun z => e z.symm)]; exact valV_neg (p := (k, y)) e
  | p :: r, hn => by
    rw [List.cons_append]
    have hk : ¬ p.1 = k := fun z => by rw [valV_pos z] at hn; cases hn
    rw [valV_neg hk] at hn
    have ih := valV_snoc k j y r hn
    by_cases e : p.1 = j
    · rw [valV_pos e, valV_pos e, if_neg (fun z => hk (e.trans z))]
    · rw [valV_neg e, valV_neg e, ih]
theorem valV_put (kvs : List (κ × V)) (k j : κ) (y : V) : valV (putK kvs k y) j = if j = k then some y else valV kvs j := by
  unfold putK
  by_cases a : (kvs.any fun kv => decide (kv.1 = k)) = true
  · rw [if_pos a, valV_map]
    rw [valV_any] at a
    by_cases e : j = k
    · obtain ⟨x, hx⟩ := Option.isSome_iff_exists.mp a
      rw [if_pos e, e, hx, Option.map_some, if_pos rfl]
    · rw [if_neg e]
      cases valV kvs j with
      | none => rfl
      | some x => rw [Option.map_some, if_neg e]
  · rw [if_neg a]
    refine valV_snoc k j y kvs ?_
    rw [valV_any] at a
    cases q : valV kvs k with
    | none => rfl
    | some x => rw [q] at a; exact (a rfl).elim
theorem length_putK (kvs : List (κ × V)) (k : κ) (v : V) : (putK kvs k v).length ≤ kvs.length + 1 := by
  unfold putK
  split
  · rw [List.length_map]; omega
  · rw [List.length_append, List.length_cons, List.length_nil]; omega
theorem putK_new {kvs : List (κ × V)} {k : κ} (v : V) (h : valV kvs k = none) : putK kvs k v = kvs ++ [(k, v)] := by
  unfold putK
  rw [valV_any, h]
  exact if_neg (by decide)
theorem RelO.isSome_eq {o : Option V} {u : Option Value} (r : RelO o u) : o.isSome = u.isSome := by
  cases o with
  | none => cases u with
    | none => rfl
    | some _ => exact (show False from r).elim
  | some _ => cases u with
    | none => exact (show False from r).elim
    | some _ => rfl
theorem RelO.getD {o : Option V} {u : Option Value} {d : V} {d' : Value} (r : RelO o u) (rd : RelV d d') : RelV (o.getD d) (u.getD d') := by
  cases o with
  | none => cases u with
    | none => exact rd
    | some _ => exact (show False from r).elim
  | some _ => cases u with
    | none => exact (show False from r).elim
    | some _ => exact r
theorem KV.val {kvs : List (κ × V)} {vs : List (κ × Value)} (r : KV kvs vs) (k : κ) : RelO (valV kvs k) (valueAt vs k) := by
  unfold KV at r
  induction r with
  | nil => exact True.intro
  | @cons p q ps qs h t ih =>
    obtain ⟨h1, h2⟩ := h
    by_cases e : p.1 = k
    · have e' : q.1 = k := h1.symm.trans e
      have b : valueAt (q :: qs) k = some q.2 := by simp [valueAt, List.find?_cons, e']
      rw [valV_pos e, b]; exact h2
    · have e' : ¬ q.1 = k := fun z => e (h1.trans z)
      have b : valueAt (q :: qs) k = valueAt qs k := by simp [valueAt, List.find?_cons, e']
      rw [valV_neg e, b]; exact ih
theorem KV.any {kvs : List (κ × V)} {vs : List (κ × Value)} (r : KV kvs vs) (k : κ) : (kvs.any fun kv => decide (kv.1 = k)) = vs.any fun kv => decide (kv.1 = k) := by
  unfold KV at r
  induction r with
  | nil => rfl
  | cons h t ih => rw [List.any_cons, List.any_cons, ih, h.1]
theorem KV.repl {kvs : List (κ × V)} {vs : List (κ × Value)} (r : KV kvs vs) (k : κ) {y : V} {u : Value} (ry : RelV y u) :
    KV (kvs.map fun kv => if kv.1 = k then (kv.1, y) else kv) (vs.map fun kv => if kv.1 = k then (kv.1, u) else kv) := by
  unfold KV at r ⊢
  induction r with
  | nil => exact .nil
  | @cons p q ps qs h t ih =>
    rw [List.map_cons, List.map_cons]
    refine .cons ?_ ih
    obtain ⟨h1, h2⟩ := h
    by_cases e : p.1 = k
    · rw [if_pos e, if_pos (h1.symm.trans e)]; exact ⟨h1, ry⟩
    · rw [if_neg e, if_neg (fun z => e (h1.trans z))]; exact ⟨h1, h2⟩
theorem KV.put {kvs : List (κ × V)} {vs : List (κ × Value)} (r : KV kvs vs) (k : κ) {y : V} {u : Value} (ry : RelV y u) : KV (putK kvs k y) (stored vs k u) := by
  unfold putK stored
  rw [r.any k]
  by_cases e : (vs.any fun kv => decide (kv.1 = k)) = true
  · rw [if_pos e, if_pos e]; exact r.repl k ry
  · rw [if_neg e, if_neg e]; exact Paired.snoc r ⟨rfl, ry⟩
theorem KV.drop {kvs : List (κ × V)} {vs : List (κ × Value)} (r : KV kvs vs) (k : κ) : KV (dropK kvs k) (without vs k) := by
  unfold KV at r ⊢
  unfold dropK without
  induction r with
  | nil => exact .nil
  | @cons p q ps qs h t ih =>
    obtain ⟨h1, h2⟩ := h
    rw [List.filter_cons, List.filter_cons]
    by_cases e : p.1 = k
    · have a : ¬ decide (p.1 ≠ k) = true := by simp [e]
      have b : ¬ decide (q.1 ≠ k) = true := by simp [h1.symm.trans e]
      rw [if_neg a, if_neg b]; exact ih
    · have e' : ¬ q.1 = k := fun z => e (h1.trans z)
      have a : decide (p.1 ≠ k) = true := by simp [e]
      have b : decide (q.1 ≠ k) = true := by simp [e']
      rw [if_pos a, if_pos b]; exact .cons ⟨h1, h2⟩ ih
theorem KV.length {kvs : List (κ × V)} {vs : List (κ × Value)} (r : KV kvs vs) : kvs.length = vs.length := Paired.length r
end
theorem kV_is {P : Program} {w : World} {k : Key} {u : Value} (r : RelV (kV k) u) : (mixKind P w).is k u = true := by
  cases k with
  | inl i => obtain ⟨t, e⟩ := (show ∃ t, u = Value.int i t from r); subst e; exact mixKind_int P w i t
  | inr x => obtain ⟨t, e⟩ := (show ∃ t, u = Value.str x t from r); subst e; exact mixKind_str P w x t
theorem items_are {P : Program} {w : World} : ∀ {ks : List Key} {us : List Value}, Vals (ks.map kV) us → ItemsAre (mixKind P w) ks us
  | [], _, r => by rw [List.map_nil] at r; cases r; exact .nil
  | k :: ks, _, r => by
    rw [List.map_cons] at r
    cases r with
    | cons h t => exact .cons (kV_is h) (items_are t)
abbrev KT (H : Hp) : List (List Key × V) → List (List Key × Addr × Value) → Prop := Paired fun p q => p.1 = q.1 ∧ H q.2.1 = some (.tup (p.1.map kV)) ∧ RelV p.2 q.2.2
theorem KT.val {H : Hp} {kvs : List (List Key × V)} {xs : List (List Key × Addr × Value)} (r : KT H kvs xs) (k : List Key) : RelO (valV kvs k) ((atKey xs k).map (·.2)) := by
  induction r with
  | nil => exact True.intro
  | @cons p q ps qs h t ih =>
    obtain ⟨h1, _, h2⟩ := h
    by_cases e : p.1 = k
    · have e' : q.1 = k := h1.symm.trans e
      have b : atKey (q :: qs) k = some q.2 := by simp [atKey, List.find?_cons, e']
      rw [valV_pos e, b]; exact h2
    · have e' : ¬ q.1 = k := fun z => e (h1.trans z)
      have b : atKey (q :: qs) k = atKey qs k := by simp [atKey, List.find?_cons, e']
      rw [valV_neg e, b]; exact ih
theorem KT.repl {H : Hp} {kvs : List (List Key × V)} {xs : List (List Key × Addr × Value)} (r : KT H kvs xs) (k : List Key) {y : V} {u : Value} (ry : RelV y u) :
    KT H (kvs.map fun kv => if kv.1 = k then (kv.1, y) else kv) (xs.map (putAt k u)) := by
  induction r with
  | nil => exact .nil
  | @cons p q ps qs h t ih =>
    rw [List.map_cons, List.map_cons]
    refine .cons ?_ ih
    obtain ⟨h1, h2, h3⟩ := h
    unfold putAt
    by_cases e : p.1 = k
    · rw [if_pos e, if_pos (h1.symm.trans e)]; exact ⟨h1, h2, ry⟩
    · rw [if_neg e, if_neg (fun z => e (h1.trans z))]; exact ⟨h1, h2, h3⟩
theorem KT.put {H : Hp} {kvs : List (List Key × V)} {xs : List (List Key × Addr × Value)} (r : KT H kvs xs) (k : List Key) {b : Addr} {y : V} {u : Value} (hb : H b = some (.tup (k.map kV))) (ry : RelV y u) :
    KT H (putK kvs k y) (storedH xs k b u) := by
  have e : (kvs.any fun kv => decide (kv.1 = k)) = (atKey xs k).isSome := by
    rw [valV_any, (r.val k).isSome_eq, Option.isSome_map]
  unfold putK storedH
  rw [e]
  by_cases q : (atKey xs k).isSome = true
  · rw [if_pos q, if_pos q]; exact r.repl k ry
  · rw [if_neg q, if_neg q]; exact Paired.snoc r ⟨rfl, hb, ry⟩
theorem KT.keeps {H H' : Hp} {kvs : List (List Key × V)} {xs : List (List Key × Addr × Value)} (r : KT H kvs xs) (ht : ∀ b ys, H b = some (.tup ys) → H' b = some (.tup ys)) : KT H' kvs xs :=
  Paired.mapP r fun _ _ z => ⟨z.1, ht _ _ z.2.1, z.2.2⟩
section
variable {P : Program} {w : World} {H : Hp} {h : Heap} {a : Addr}
theorem rd_of {u : HO} (ok : HOk P w H h) (e : Rd H a u) : ObjOk P w H h a u := e.ok ok
theorem dk_rd {kvs : List (Key × V)} (ok : HOk P w H h) (e : Rd H a (.dK kvs)) : kvs.length ≤ sizeLine ∧ (a == sysModules) = false ∧ ∃ vs, KV kvs vs ∧ h.DictOf (mixKind P w) a vs :=
  show ObjOk P w H h a (.dK kvs) from rd_of ok e
theorem dk_of {kvs : List (Key × V)} (ok : HOk P w H h) (e : H a = some (.dK kvs)) : kvs.length ≤ sizeLine ∧ (a == sysModules) = false ∧ ∃ vs, KV kvs vs ∧ h.DictOf (mixKind P w) a vs := dk_rd ok (.inl e)
theorem key_of {ks : List Key} (ok : HOk P w H h) (e : H a = some (.tup (ks.map kV))) : (tupleKind (mixKind P w)).is h ks a := by
  obtain ⟨_, its, r, o, h1, h2, n, h3⟩ := (show ObjOk P w H h a (.tup (ks.map kV)) from ok a _ e)
  exact ⟨o, its.toArray, n, h1, h2, h3, by simpa using items_are r⟩
theorem dt_rd {kvs : List (List Key × V)} (ok : HOk P w H h) (e : Rd H a (.dT kvs)) : kvs.length ≤ sizeLine ∧ (a == sysModules) = false ∧
    ∃ xs, KT H kvs xs ∧ h.DictOfH (tupleKind (mixKind P w)) a xs := by
  obtain ⟨z, y, xs, r, o, es, ep, h1, h2, h3, h4, h5⟩ := (show ObjOk P w H h a (.dT kvs) from rd_of ok e)
  refine ⟨z, y, xs, r, o, es, ep, h1, h2, h3, h4, fun x hx => ?_, h5⟩
  have all : ∀ {l : List (List Key × V)} {m : List (List Key × Addr × Value)}, KT H l m → ∀ x ∈ m, (tupleKind (mixKind P w)).is h x.1 x.2.1 := by
    intro l m q
    induction q with
    | nil => intro x hx; exact nomatch hx
    | @cons p q ps qs hq t ih =>
      intro x hx
      rcases List.mem_cons.mp hx with e | hx
      · subst e
        exact key_of ok (by rw [← hq.1]; exact hq.2.1)
      · exact ih x hx
  exact all r x hx
theorem dt_of {kvs : List (List Key × V)} (ok : HOk P w H h) (e : H a = some (.dT kvs)) : kvs.length ≤ sizeLine ∧ (a == sysModules) = false ∧
    ∃ xs, KT H kvs xs ∧ h.DictOfH (tupleKind (mixKind P w)) a xs := dt_rd ok (.inl e)
end
def DGet (H : Hp) (a : Addr) (y : V) (r : Option V) : Prop :=
  (∃ kvs k, Rd H a (.dK kvs) ∧ y = kV k ∧ r = valV kvs k) ∨ ∃ kvs k b, Rd H a (.dT kvs) ∧ y = .ref b ∧ H b = some (.tup (k.map kV)) ∧ r = valV kvs k
def DPut (H : Hp) (a : Addr) (y v : V) (H' : Hp) : Prop :=
  (∃ kvs k, H a = some (.dK kvs) ∧ y = kV k ∧ kvs.length < sizeLine ∧ H' = upd H a (.dK (putK kvs k v))) ∨
  ∃ kvs k b, H a = some (.dT kvs) ∧ y = .ref b ∧ H b = some (.tup (k.map kV)) ∧ kvs.length < sizeLine ∧ H' = upd H a (.dT (putK kvs k v))
theorem DGet.k {H : Hp} {a : Addr} {kvs : List (Key × V)} {k : Key} (e : H a = some (.dK kvs)) : DGet H a (kV k) (valV kvs k) := .inl ⟨kvs, k, .inl e, rfl, rfl⟩
theorem DGet.t {H : Hp} {a b : Addr} {kvs : List (List Key × V)} {k : List Key} (e : H a = some (.dT kvs)) (eb : H b = some (.tup (k.map kV))) : DGet H a (.ref b) (valV kvs k) := .inr ⟨kvs, k, b, .inl e, rfl, eb, rfl⟩
theorem DPut.k {H : Hp} {a : Addr} {kvs : List (Key × V)} {k : Key} {v : V} (e : H a = some (.dK kvs)) (hl : kvs.length < sizeLine) : DPut H a (kV k) v (upd H a (.dK (putK kvs k v))) := .inl ⟨kvs, k, e, rfl, hl, rfl⟩
theorem DPut.t {H : Hp} {a b : Addr} {kvs : List (List Key × V)} {k : List Key} {v : V} (e : H a = some (.dT kvs)) (eb : H b = some (.tup (k.map kV))) (hl : kvs.length < sizeLine) :
    DPut H a (.ref b) v (upd H a (.dT (putK kvs k v))) := .inr ⟨kvs, k, b, e, rfl, eb, hl, rfl⟩
section
variable {X : Cx} {pins : List (Addr × Obj)} {σ : St} {H : Hp} {s : Shared} {a : Addr} {y v : V} {u r : Value} {o : Option V} {A : Around} {E : Value → Shared → Prop}
theorem Inv.big (I : Inv X pins σ H s) : sysModules < s.heap.objs.size := by
  have h : mainGlobals < s.heap.objs.size := (I.mod.glob.keeps I.bk).lt
  exact Nat.lt_trans (by decide) h
theorem d_getItem {Q : Value → Shared → Prop} (hu : A.units + 1 < cLine) (I : Inv X pins σ H s) (g : DGet H a y (some v)) (ry : RelV y u) (h : ∀ w' s', Inv X pins σ H s' → RelV v w' → Q w' s') :
    wpAny (model X.prog X.w) A (getItem (.ref a) u) Q E s := by
  rcases g with ⟨kvs, k, e, ey, l⟩ | ⟨kvs, k, b, e, ey, eb, l⟩
  · subst ey
    obtain ⟨z, hd, vs, rel, dd⟩ := dk_rd I.hok e
    obtain ⟨w', hw, rw'⟩ := RelO.some_of (v := v) (o := valueAt vs k) (by rw [l]; exact rel.val k)
    exact wpAny_getItem_of (kV_is ry) dd.mapOf hw (h w' _ (I.tok _) rw')
  · subst ey
    cases (show u = Value.ref b from ry)
    obtain ⟨z, hd, xs, rel, dd⟩ := dt_rd I.hok e
    obtain ⟨w', hw, rw'⟩ := RelO.some_of (v := v) (o := (atKey xs k).map (·.2)) (by rw [l]; exact rel.val k)
    obtain ⟨p, hp, hp2⟩ := Option.map_eq_some_iff.mp hw
    refine wpAny_getItem_heap (tupleKind_room_in1 hu) (key_of I.hok eb) dd hp ?_
    rw [hp2]
    exact h w' _ (I.tok _) rw'
theorem d_in {Q : Value → Shared → Prop} (hu : A.units + 1 < cLine) (I : Inv X pins σ H s) (g : DGet H a y o) (ry : RelV y u) (h : ∀ s', Inv X pins σ H s' → Q (.bool o.isSome) s') :
    wpAny (model X.prog X.w) A (compareOp .In u (.ref a)) Q E s := by
  rcases g with ⟨kvs, k, e, ey, l⟩ | ⟨kvs, k, b, e, ey, eb, l⟩
  · subst ey
    obtain ⟨z, hd, vs, rel, dd⟩ := dk_rd I.hok e
    refine wpAny_in_of (kV_is ry) hd dd.mapOf ?_
    rw [← (rel.val k).isSome_eq, ← l]
    exact h _ (I.tok _)
  · subst ey
    cases (show u = Value.ref b from ry)
    obtain ⟨z, hd, xs, rel, dd⟩ := dt_rd I.hok e
    refine wpAny_in_heap (tupleKind_room_in1 hu) (key_of I.hok eb) hd dd ?_
    have q := (rel.val k).isSome_eq
    rw [Option.isSome_map] at q
    rw [← q, ← l]
    exact h _ (I.tok _)
theorem d_notIn {Q : Value → Shared → Prop} (hu : A.units + 1 < cLine) (I : Inv X pins σ H s) (g : DGet H a y o) (ry : RelV y u) (h : ∀ s', Inv X pins σ H s' → Q (.bool (!o.isSome)) s') :
    wpAny (model X.prog X.w) A (compareOp .NotIn u (.ref a)) Q E s := by
  rcases g with ⟨kvs, k, e, ey, l⟩ | ⟨kvs, k, b, e, ey, eb, l⟩
  · subst ey
    obtain ⟨z, hd, vs, rel, dd⟩ := dk_rd I.hok e
    refine wpAny_notIn_of (kV_is ry) hd dd.mapOf ?_
    rw [← (rel.val k).isSome_eq, ← l]
    exact h _ (I.tok _)
  · subst ey
    cases (show u = Value.ref b from ry)
    obtain ⟨z, hd, xs, rel, dd⟩ := dt_rd I.hok e
    refine wpAny_notIn_heap (tupleKind_room_in1 hu) (key_of I.hok eb) hd dd ?_
    have q := (rel.val k).isSome_eq
    rw [Option.isSome_map] at q
    rw [← q, ← l]
    exact h _ (I.tok _)
theorem d_write {h' : Heap} {t' : Nat} {ob : HO} (I : Inv X pins σ H s) (mu : Mut (H a)) (hs : Heap.SameBut a s.heap h') (he : ∃ q, h'.get? a = some q) (new : ObjOk X.prog X.w (upd H a ob) h' a ob) :
    Inv X pins σ (upd H a ob) { s with heap := h', toks := t' } :=
  I.write (x := a) (e := a) mu (.inl rfl) (fun b q hb z => (hs.2 b hb).trans z) he new
theorem dk_new {P : Program} {w : World} {H' : Hp} {h' : Heap} {kvs : List (Key × V)} {vs : List (Key × Value)} (z : kvs.length ≤ sizeLine) (hd : (a == sysModules) = false) (rel : KV kvs vs) (dd : h'.DictOf (mixKind P w) a vs) :
    ObjOk P w H' h' a (.dK kvs) := ⟨z, hd, vs, rel, dd⟩
theorem d_setItem {H' : Hp} {Q : Unit → Shared → Prop} (hu : A.units + 1 < cLine) (I : Inv X pins σ H s) (g : DPut H a y v H') (ry : RelV y u) (rv : RelV v r) (h : ∀ s', Inv X pins σ H' s' → Q () s') :
    wpAny (model X.prog X.w) A (setItem (.ref a) u r) Q E s := by
  rcases g with ⟨kvs, k, e, ey, l, eH⟩ | ⟨kvs, k, b, e, ey, eb, l, eH⟩
  · subst ey eH
    obtain ⟨z, hd, vs, rel, dd⟩ := dk_of I.hok e
    have hz : vs.length ≤ sizeLine := by rw [← rel.length]; exact z
    have hl : (putK kvs k v).length ≤ sizeLine := by have := length_putK kvs k v; omega
    refine wpAny_setItem_pairs (hsz := hz) (kV_is ry) dd fun h' dd' hs => h _ ?_
    have he : ∃ q, h'.get? a = some q := let ⟨q, _, _, hq, _⟩ := dd'; ⟨q, hq⟩
    exact d_write I (by rw [e]; exact True.intro) hs he (dk_new hl hd (rel.put k rv) dd')
  · subst ey eH
    cases (show u = Value.ref b from ry)
    obtain ⟨z, hd, xs, rel, dd⟩ := dt_of I.hok e
    have hz : xs.length ≤ sizeLine := by rw [← Paired.length rel]; exact z
    have hl : (putK kvs k v).length ≤ sizeLine := by have := length_putK kvs k v; omega
    refine wpAny_setItem_heap (hsz := hz) (tupleKind_room_in1 hu) (key_of I.hok eb) dd fun h' dd' hs => h _ ?_
    obtain ⟨q, es, ep, hq, h2, h3, h4, _, h5⟩ := dd'
    refine d_write I (by rw [e]; exact True.intro) hs ⟨q, hq⟩ ⟨hl, hd, _, (rel.put k eb rv).keeps fun c ys ec => ?_, q, es, ep, hq, h2, h3, h4, h5⟩
    rw [upd_ne (ne_of ec e (fun z => nomatch z))]
    exact ec
end
section
variable {X : Cx} {pins : List (Addr × Obj)} {σ : St} {H : Hp} {s : Shared} {a : Addr} {kvs : List (Key × V)} {k : Key} {u : Value} {A : Around} {E : Value → Shared → Prop}
theorem d_len {Q : Value → Shared → Prop} (I : Inv X pins σ H s) (e : Rd H a (.dK kvs)) (h : ∀ t s', Inv X pins σ H s' → Q (.int kvs.length t) s') : wpAny (model X.prog X.w) A (call (.builtin "len") [.ref a]) Q E s := by
  obtain ⟨z, hd, vs, rel, dd⟩ := dk_rd I.hok e
  refine call_len_dict hd dd (by rw [← rel.length]; rw [sizeLine_eq] at z; omega) ?_
  rw [← rel.length]
  exact h _ _ (I.tok _)
end
def NoSl (i : Expr) : Prop := ∀ ov iv, subscripted i false ov iv = operate [ov, iv] (getItem ov iv)
theorem subD_of {prog : Program} {w : World} {A : Around} {E : Value → Shared → Prop} {s : Shared} {env : Env} {value slice : Expr} {pos : Pos} {T id : String} {Q : Value → Shared → Prop}
    (hl : typeLookup (.type T) "__getitem__" = pure (some (.builtin id))) (hs : NoSl slice)
    (h : wpAny (model prog w) A (eval value env) (fun o s₁ => wpAny (model prog w) A (eval slice env) (fun i s₂ => s₂.TypeIs o T ∧ wpAny (model prog w) A (getItem o i) Q E s₂) E s₁) E s) :
    wpAny (model prog w) A (eval (.Subscript value slice pos) env) Q E s := by
  refine Subscript_ (wpAny_mono h (fun o s₁ h₁ => wpAny_mono h₁ (fun i s₂ h₂ => ?_) fun _ _ x => x) fun _ _ x => x)
  obtain ⟨hT, h₂⟩ := h₂
  unfold subscriptTail
  refine wpAny_bind ?_
  rw [getitemInPython_of_ne hT.not_modules]
  refine wpAny_bind (wpAny_specialOf hT hl ?_)
  have fin : wpAny (model prog w) A (subscripted slice false o i) (fun r s₃ => wpAny (model prog w) A (letTemporaryGo value o r >>= fun _ => pure r) Q E s₃) E s₂ := by
    rw [hs o i]
    exact wpAny_operating (wpAny_mono h₂ (fun r s₃ h₃ => wpAny_bind (wpAny_letTemporaryGo (wpAny_pure h₃))) fun _ _ x => x)
  first
    | exact wpAny_pure (wpAny_bind fin)
    | exact wpAny_bind (wpAny_pure (wpAny_bind fin))
    | exact wpAny_bind fin
theorem dict_typeIs {X : Cx} {pins : List (Addr × Obj)} {σ : St} {H : Hp} {s : Shared} {a : Addr} {y : V} {o : Option V} (I : Inv X pins σ H s) (g : DGet H a y o) : s.TypeIs (.ref a) "dict" := by
  rcases g with ⟨kvs, k, e, _, _⟩ | ⟨kvs, k, b, e, _, _, _⟩
  · obtain ⟨_, _, vs, _, dd⟩ := dk_rd I.hok e
    exact dd.typeIs
  · obtain ⟨_, _, xs, _, dd⟩ := dt_rd I.hok e
    exact dd.typeIs
def tDGet (td ty : TE) : TE := fun σ H Q => td σ H fun x H1 => ty σ H1 fun y H2 => ∃ a v, x = .ref a ∧ DGet H2 a y (some v) ∧ Q v H2
def tDIn (ty td : TE) : TE := fun σ H Q => ty σ H fun y H1 => td σ H1 fun x H2 => ∃ a o, x = .ref a ∧ DGet H2 a y o ∧ Q (.bl o.isSome) H2
def tDNotIn (ty td : TE) : TE := fun σ H Q => ty σ H fun y H1 => td σ H1 fun x H2 => ∃ a o, x = .ref a ∧ DGet H2 a y o ∧ Q (.bl (!o.isSome)) H2
def sDPut (td ty tv : TE) : TS := fun D σ H => tv σ H fun v H1 => td σ H1 fun x H2 => ty σ H2 fun y H3 => ∃ a H4, x = .ref a ∧ DPut H3 a y v H4 ∧ D.nx σ H4
section
variable {X : Cx} {o i e value : Expr} {pos pos' tpos : Pos} {td ty tv : TE}
theorem pe_dget (hu : X.A.units + 1 < cLine) (ho : PE X o td) (hi : PE X i ty) (hs : NoSl i) : PE X (.Subscript o i pos) (tDGet td ty) := by
  intro pins s σ H Q I h
  refine subD_of PySem.F.slot_dict_getitem.lookup hs (thn (ho pins s σ H _ I h) fun u s1 ⟨x, H1, I1, rx, q1⟩ => thn (hi pins s1 σ H1 _ I1 q1) fun iv s2 ⟨y, H2, I2, ry, a, v, ex, g, q2⟩ => ?_)
  subst ex
  obtain rfl : u = Value.ref a := rx
  exact ⟨dict_typeIs I2 g, d_getItem hu I2 g ry fun w' s3 I3 rw' => ⟨v, H2, I3, rw', q2⟩⟩
theorem pc_din (hu : X.A.units + 1 < cLine) (hi : PE X i ty) (ho : PE X o td) : PC X .In i o (tDIn ty td) := by
  intro pins s σ H Q I h
  refine thn (hi pins s σ H _ I h) fun iv s1 ⟨y, H1, I1, ry, q1⟩ => thn (ho pins s1 σ H1 _ I1 q1) fun u s2 ⟨x, H2, I2, rx, a, ov, ex, g, q2⟩ => ?_
  subst ex
  obtain rfl : u = Value.ref a := rx
  exact d_in hu I2 g ry fun s3 I3 => ⟨.bl ov.isSome, H2, I3, rfl, q2⟩
theorem pc_dnotin (hu : X.A.units + 1 < cLine) (hi : PE X i ty) (ho : PE X o td) : PC X .NotIn i o (tDNotIn ty td) := by
  intro pins s σ H Q I h
  refine thn (hi pins s σ H _ I h) fun iv s1 ⟨y, H1, I1, ry, q1⟩ => thn (ho pins s1 σ H1 _ I1 q1) fun u s2 ⟨x, H2, I2, rx, a, ov, ex, g, q2⟩ => ?_
  subst ex
  obtain rfl : u = Value.ref a := rx
  exact d_notIn hu I2 g ry fun s3 I3 => ⟨.bl (!ov.isSome), H2, I3, rfl, q2⟩
theorem ps_dput (hu : X.A.units + 1 < cLine) (ho : PE X o td) (hi : PE X i ty) (hv : PE X value tv) (hs : swapsWith value (some (.Subscript o i pos')) pos.line X.env = pure false) :
    PS X (.Assign [.Subscript o i pos'] value pos) (sDPut td ty tv) := by
  intro pins s σ H D I h
  refine wpAny_Assign_Subscript (thn (hv pins s σ H _ I h) fun r s1 ⟨v, H1, I1, rv, q1⟩ => thn (ho pins s1 σ H1 _ I1 q1) fun u s2 ⟨x, H2, I2, rx, q2⟩ => thn (hi pins s2 σ H2 _ I2 q2) fun iv s3 ⟨y, H3, I3, ry, a, H4, ex, g, q3⟩ => ?_) hs
  subst ex
  obtain rfl : u = Value.ref a := rx
  exact d_setItem hu I3 g ry rv fun s4 I4 => ⟨σ, H4, I4, q3⟩
end
theorem dk_empty {P : Program} {w : World} {H : Hp} (h : Heap) (hb : sysModules < h.objs.size) : ObjOk P w H (h.push { cls := .type "dict", data := .dict #[] }) h.objs.size (.dK []) :=
  ⟨Nat.zero_le _, beq_eq_false_iff_ne.mpr (Ne.symm (Nat.ne_of_lt hb)), [], .nil, Heap.DictOf.new h⟩
def tDNewK : TE := fun _ H Q => ∀ p, H p = none → Q (.ref p) (upd H p (.dK []))
section
variable {X : Cx} {pos : Pos}
theorem pe_dnewK : PE X (.Dict [] [] pos) tDNewK := fun pins s σ H Q I h =>
  wpAny_Dict_empty ⟨.ref s.heap.objs.size, _, I.laid (a := s.heap.objs.size) (o := .dK []) (t' := s.toks) (fun _ _ q => Heap.get?_push_of_some _ q) (Nat.le_refl _) (dk_empty s.heap I.big), rfl, h _ (I.hok.fresh (Nat.le_refl _))⟩
end
structure M1 (X : Cx) (o : Expr) (m : Str) (apos : Pos) (e : Expr) (cpos : Pos) : Prop where
  base : attributeBase o m X.env (eval o X.env) = eval o X.env
  few : ((backTo cpos (starEach [e] X.env)).all (fun x => !x.1) && (backToKw cpos (keywordEach [] X.env)).all (fun x => x.1.isSome)
    && decide (([e] : List Expr).length + ([] : List Keyword).length + (if ([] : List Keyword).isEmpty then 0 else 1) < 30)) = true
  line : (apos.endLine == cpos.line) = true
  trees : backTo cpos (starEach [e] X.env) = [(false, eval e X.env)]
structure M2 (X : Cx) (o : Expr) (m : Str) (apos : Pos) (e f : Expr) (cpos : Pos) : Prop where
  base : attributeBase o m X.env (eval o X.env) = eval o X.env
  few : ((backTo cpos (starEach [e, f] X.env)).all (fun x => !x.1) && (backToKw cpos (keywordEach [] X.env)).all (fun x => x.1.isSome)
    && decide (([e, f] : List Expr).length + ([] : List Keyword).length + (if ([] : List Keyword).isEmpty then 0 else 1) < 30)) = true
  line : (apos.endLine == cpos.line) = true
  trees : backTo cpos (starEach [e, f] X.env) = [(false, eval e X.env), (false, eval f X.env)]
def IsD (H : Hp) (a : Addr) : Prop := (∃ kvs, Rd H a (.dK kvs)) ∨ ∃ kvs, Rd H a (.dT kvs)
theorem isD_at {X : Cx} {pins : List (Addr × Obj)} {σ : St} {H : Hp} {s : Shared} {a : Addr} (I : Inv X pins σ H s) (d : IsD H a) :
    s.TypeIs (.ref a) "dict" ∧ (∀ b, Value.ref a = .ref b → ∃ ob, s.heap.get? b = some ob ∧ ob.dict = none) ∧ (a == sysModules) = false := by
  rcases d with ⟨kvs, e⟩ | ⟨kvs, e⟩
  · obtain ⟨_, hd, vs, _, dd⟩ := dk_rd I.hok e
    refine ⟨dd.typeIs, fun b q => ?_, hd⟩
    cases q
    obtain ⟨ob, _, _, h1, h2, _⟩ := dd
    exact ⟨ob, h1, h2.2.1⟩
  · obtain ⟨_, hd, xs, _, dd⟩ := dt_rd I.hok e
    refine ⟨dd.typeIs, fun b q => ?_, hd⟩
    cases q
    obtain ⟨ob, _, _, h1, h2, _⟩ := dd
    exact ⟨ob, h1, h2.2.1⟩
section
variable {X : Cx} {pins : List (Addr × Obj)} {σ : St} {H : Hp} {s : Shared} {a : Addr} {y d : V} {u r : Value} {o : Option V} {A : Around} {E : Value → Shared → Prop}
theorem d_get2 {Q : Value → Shared → Prop} (hu : A.units + 1 < cLine) (I : Inv X pins σ H s) (g : DGet H a y o) (ry : RelV y u) (rd : RelV d r) (h : ∀ w' s', Inv X pins σ H s' → RelV (o.getD d) w' → Q w' s') :
    wpAny (model X.prog X.w) A (call (.builtin "dict.get") [.ref a, u, r]) Q E s := by
  rcases g with ⟨kvs, k, e, ey, l⟩ | ⟨kvs, k, b, e, ey, eb, l⟩
  · subst ey
    obtain ⟨z, hd, vs, rel, dd⟩ := dk_rd I.hok e
    refine call_meetsIn PySem.F.slot_dict_get dd.typeIs PySem.F.entry_dict_get (PySem.F.args_dict_get_3 _ _ _) (meets_dict_get_default (mixKind X.prog X.w) a (kV_is ry) hd r) ⟨_, dd.mapOf, h _ _ (I.tok _) ?_⟩
    rw [l]
    exact (rel.val k).getD rd
  · subst ey
    cases (show u = Value.ref b from ry)
    obtain ⟨z, hd, xs, rel, dd⟩ := dt_rd I.hok e
    refine call_meetsIn PySem.F.slot_dict_get dd.typeIs PySem.F.entry_dict_get (PySem.F.args_dict_get_3 _ _ _) (meetsH_dict_get_default (tupleKind (mixKind X.prog X.w)) a b hd r) ⟨tupleKind_room_in1 hu, k, xs, key_of I.hok eb, dd, h _ _ (I.tok _) ?_⟩
    rw [l]
    exact (rel.val k).getD rd
end
def tDGet2 (td ty tx : TE) : TE := fun σ H Q => td σ H fun x H1 => ∃ a, x = .ref a ∧ IsD H1 a ∧ ty σ H1 fun y H2 => tx σ H2 fun z H3 => ∃ o, DGet H3 a y o ∧ Q (o.getD z) H3
section
variable {X : Cx} {o e f : Expr} {apos cpos : Pos} {td ty tx : TE}
theorem pe_dget2 (hu : X.A.units + 1 < cLine) (ho : PE X o td) (he : PE X e ty) (hf : PE X f tx) (m : M2 X o "get" apos e f cpos) : PE X (.Call (.Attribute o "get" apos) [e, f] [] cpos) (tDGet2 td ty tx) := by
  intro pins s σ H Q I h
  refine wpAny_Call_method m.base m.few m.line PySem.F.plainAttrs_dict PySem.F.slot_dict_get PySem.F.type_dict_get (thn (ho pins s σ H _ I h) fun u s1 ⟨x, H1, I1, rx, a, ex, d, q1⟩ => ?_)
  subst ex
  obtain rfl : u = Value.ref a := rx
  obtain ⟨t1, t2, _⟩ := isD_at I1 d
  refine ⟨t1, t2, ?_⟩
  rw [m.trees]
  refine Calls.callWith_builtin rfl (Calls.evalArgs_plain (Calls.spliced_cons (thn (he pins s1 σ H1 _ I1 q1) fun iv s2 ⟨y, H2, I2, ry, q2⟩ =>
    Calls.spliced_cons (thn (hf pins s2 σ H2 _ I2 q2) fun fv s3 ⟨z, H3, I3, rz, ov, g, q3⟩ => Calls.spliced_nil ?_))))
  exact d_get2 hu I3 g ry rz fun w' s4 I4 rw' => ⟨_, H3, I4, rw', q3⟩
end
section
variable {X : Cx} {pins : List (Addr × Obj)} {σ : St} {H : Hp} {s : Shared} {a : Addr} {kvs : List (Key × V)} {A : Around} {E : Value → Shared → Prop}
end
section
variable {X : Cx} {pins : List (Addr × Obj)} {σ : St} {H : Hp} {s : Shared} {a : Addr} {y : V} {u : Value} {A : Around} {E : Value → Shared → Prop}
end
end L2
namespace HT
open PySem PyProof.Rows
section
open PySem.SeqAt
open PySem.AutoSeq1 (wpAny_loadPart')
open PySem.MeetsSeq PySem.MeetsSeq2 PySem.MeetsSeq3
end
section
variable {prog : Program} {w : World} {A : Around} {E : Value → Shared → Prop} {s : Shared}
end
end HT
namespace L2
open PySem PySem.Spec PyProof.Rows
abbrev TO := St → Hp → (Option Int → Hp → Prop) → Prop
def PO (X : Cx) (e : Option Expr) (t : TO) : Prop :=
  ∀ (pins : List (Addr × Obj)) (s : Shared) (σ : St) (H : Hp) (Q : Option Int → Hp → Prop), Inv X pins σ H s → t σ H Q →
    wpAny (model X.prog X.w) X.A (evalPart e X.env) (fun u s' => ∃ o H', Inv X pins σ H' s' ∧ IsPart u o ∧ Q o H') X.xe s
def tNoPart : TO := fun _ H Q => Q none H
def tPart (t : TE) : TO := fun σ H Q => t σ H fun x H1 => ∃ i, x = .int i ∧ Q (some i) H1
theorem intsAre_of {ns : List Int} : ∀ {us : List Value}, Vals (ns.map V.int) us → IntsAre us ns := by
  induction ns with
  | nil => intro us r; rw [List.map_nil] at r; cases r; exact .nil
  | cons n ns ih =>
    intro us r
    rw [List.map_cons] at r
    cases r with
    | cons r1 r2 =>
      obtain ⟨t, e⟩ := r1
      subst e
      exact .cons n t (ih r2)
section
variable {X : Cx} {e : Expr} {te : TE} {lo hi : Option Expr} {tl th : TO} {pos p2 : Pos}
theorem po_none : PO X none tNoPart := by
  intro pins s σ H Q I h
  rw [evalPart_none]
  exact wpAny_pure ⟨none, H, I, .none, h⟩
theorem po_some (h : PE X e te) : PO X (some e) (tPart te) := by
  intro pins s σ H Q I hw
  rw [evalPart_some]
  refine thn (h pins s σ H _ I hw) fun u s1 ⟨x, H1, I1, r1, q1⟩ => ?_
  obtain ⟨i, rfl, q⟩ := q1
  obtain ⟨t, rfl⟩ := r1
  exact ⟨some i, H1, I1, .int i t, q⟩
def SlR (X : Cx) (r : V → Option Int → Option Int → Hp → VK → Prop) : Prop :=
  ∀ (pins : List (Addr × Obj)) (s : Shared) (σ : St) (H : Hp) (x : V) (v vl vu : Value) (lo hi : Option Int) (sl : Addr) (Q : VK), Inv X pins σ H s → RelV x v → s.heap.IsSliceOf sl vl vu .none → IsPart vl lo → IsPart vu hi → r x lo hi H Q →
    ∃ T id, typeLookup (.type T) "__getitem__" = pure (some (.builtin id)) ∧ s.TypeIs v T ∧ wpAny (model X.prog X.w) X.A (getItem v (.ref sl)) (EP X pins σ Q) X.xe s
theorem SlR.or {r r' : V → Option Int → Option Int → Hp → VK → Prop} (h : SlR X r) (h' : SlR X r') : SlR X (fun x lo hi H Q => r x lo hi H Q ∨ r' x lo hi H Q) := by
  intro pins s σ H x v vl vu lo hi sl Q I rx hs pl pu q
  rcases q with q | q
  · exact h pins s σ H x v vl vu lo hi sl Q I rx hs pl pu q
  · exact h' pins s σ H x v vl vu lo hi sl Q I rx hs pl pu q
def tSl (r : V → Option Int → Option Int → Hp → VK → Prop) (te : TE) (tl th : TO) : TE := fun σ H Q => te σ H fun x H1 => tl σ H1 fun l H2 => th σ H2 fun u H3 => r x l u H3 Q
theorem pe_slice {r : V → Option Int → Option Int → Hp → VK → Prop} (hr : SlR X r) (he : PE X e te) (hl : PO X lo tl) (hu : PO X hi th) : PE X (.Subscript e (.Slice lo hi none p2) pos) (tSl r te tl th) := by
  intro pins s σ H Q I h
  refine Subscript_ (thn (he pins s σ H _ I h) fun v s1 ⟨x, H1, I1, r1, q1⟩ => ?_)
  refine wpAny_Slice (thn (hl pins s1 σ H1 _ I1 q1) fun vl s2 ⟨l, H2, I2, pl, q2⟩ => thn (hu pins s2 σ H2 _ I2 q2) fun vu s3 ⟨u, H3, I3, pu, q3⟩ => ?_)
  rw [evalPart_none]
  refine wpAny_pure ?_
  have I4 : Inv X pins σ H3 { s3 with heap := s3.heap.push { cls := .type "slice", data := .fields #[vl, vu, .none] } } := I3.kept (t' := s3.toks) fun b ob q => Heap.get?_push_of_some _ q
  obtain ⟨T, id, hT, ht, hg⟩ := hr pins { s3 with heap := s3.heap.push { cls := .type "slice", data := .fields #[vl, vu, .none] } } σ H3 x v vl vu l u s3.heap.objs.size Q I4 r1 (Heap.IsSliceOf.new ..) pl pu q3
  show wpAny (model X.prog X.w) X.A (subscriptTail e (.Slice lo hi none p2) v (.ref s3.heap.objs.size)) (EP X pins σ Q) X.xe { s3 with heap := s3.heap.push { cls := .type "slice", data := .fields #[vl, vu, .none] } }
  exact tail_any (ops := [.ref s3.heap.objs.size, v]) ht hT hg (by with_unfolding_all rfl)
end
end L2
namespace L2
open PySem PySem.Spec PyProof.Rows
def ixN (n : Nat) (i : Int) : Option Nat := if 0 ≤ i then (if i < n then some i.toNat else none) else if -(n : Int) ≤ i then some (i + n).toNat else none
def atI {α : Type} (xs : List α) (i : Int) : Option α := (ixN xs.length i).bind fun j => xs[j]?
theorem ixN_seq {n : Nat} {i : Int} {j : Nat} (h : ixN n i = some j) : seqIndex? i n = some j ∧ j < n ∧ -(n : Int) ≤ i ∧ i < n := by
  unfold ixN at h
  by_cases h0 : 0 ≤ i
  · rw [if_pos h0] at h
    by_cases h1 : i < n
    · rw [if_pos h1] at h
      have e : i.toNat = j := Option.some.inj h
      exact ⟨by rw [seqIndex_of h0 h1, e], by omega, by omega, h1⟩
    · rw [if_neg h1] at h; cases h
  · rw [if_neg h0] at h
    by_cases h1 : -(n : Int) ≤ i
    · rw [if_pos h1] at h
      have e : (i + n).toNat = j := Option.some.inj h
      exact ⟨by rw [seqIndex_neg (by omega) h1, e], by omega, h1, by omega⟩
    · rw [if_neg h1] at h; cases h
theorem atI_get {α : Type} {xs : List α} {i : Int} {v : α} (h : atI xs i = some v) : ∃ j, seqIndex? i xs.length = some j ∧ xs[j]? = some v ∧ j < xs.length ∧ -(xs.length : Int) ≤ i ∧ i < xs.length := by
  unfold atI at h
  cases e : ixN xs.length i with
  | none => rw [e] at h; cases h
  | some j =>
    rw [e] at h
    obtain ⟨h1, h2, h3, h4⟩ := ixN_seq e
    exact ⟨j, h1, h, h2, h3, h4⟩
theorem atI_nat {α : Type} {xs : List α} {j : Nat} {v : α} (h : xs[j]? = some v) : atI xs (j : Int) = some v := by
  have hj : j < xs.length := (List.getElem?_eq_some_iff.mp h).1
  have e : ixN xs.length (j : Int) = some j := by
    unfold ixN
    rw [if_pos (by omega), if_pos (by omega)]; simp
  unfold atI; rw [e]; exact h
def PlainIx (b : Expr) : Prop := ∀ o i, subscripted b false o i = operate [o, i] (getItem o i)
def IxR (X : Cx) (r : R2) : Prop :=
  ∀ (value slice : Expr) (pins : List (Addr × Obj)) (s : Shared) (σ : St) (H : Hp) (x y : V) (v u : Value) (Q : VK), Inv X pins σ H s → RelV x v → RelV y u → r x y H Q →
    subscripted slice false v u = operate [v, u] (getItem v u) → wpAny (model X.prog X.w) X.A (subscriptTail value slice v u) (EP X pins σ Q) X.xe s
def MtR (X : Cx) (id : String) (r : V → List V → Hp → VK → Prop) : Prop :=
  ∀ (pins : List (Addr × Obj)) (s : Shared) (σ : St) (H : Hp) (x : V) (xs : List V) (v : Value) (us : List Value) (Q : VK), Inv X pins σ H s → RelV x v → Vals xs us → r x xs H Q →
    wpAny (model X.prog X.w) X.A (call (.builtin id) (v :: us)) (EP X pins σ Q) X.xe s
section
variable {X : Cx} {a b : Expr} {ta tb : TE} {pos : Pos}
theorem IxR.or {r r' : R2} (h : IxR X r) (h' : IxR X r') : IxR X (fun x y H Q => r x y H Q ∨ r' x y H Q) := by
  intro value slice pins s σ H x y v u Q I rx ry q hs
  rcases q with q | q
  · exact h value slice pins s σ H x y v u Q I rx ry q hs
  · exact h' value slice pins s σ H x y v u Q I rx ry q hs
theorem MtR.or {id : String} {r r' : V → List V → Hp → VK → Prop} (h : MtR X id r) (h' : MtR X id r') : MtR X id (fun x xs H Q => r x xs H Q ∨ r' x xs H Q) := by
  intro pins s σ H x xs v us Q I rx rs q
  rcases q with q | q
  · exact h pins s σ H x xs v us Q I rx rs q
  · exact h' pins s σ H x xs v us Q I rx rs q
theorem pe_ix {r : R2} (hr : IxR X r) (ha : PE X a ta) (hb : PE X b tb) (hs : PlainIx b) : PE X (.Subscript a b pos) (tOp r ta tb) := by
  intro pins s σ H Q I h
  exact Subscript_ (binT ha hb I h fun v u s2 x y H2 I2 rx ry q => hr a b pins s2 σ H2 x y v u Q I2 rx ry q (hs _ _))
def rIxL (K : PySem.W.Frag) : R2 := fun x y H Q => ∃ p xs i v, x = .ref p ∧ y = .int i ∧ SqL K H p xs ∧ atI xs i = some v ∧ Q v H
def rIxS : R2 := fun x y H Q => ∃ z i c, x = .str z ∧ y = .int i ∧ z.length ≤ sizeLine ∧ atI z.cps.toList i = some c ∧ Q (.str ⟨#[c]⟩) H
theorem ix_list : IxR X (rIxL X.K) := by
  intro value slice pins s σ H x y v u Q I rx ry h hs
  obtain ⟨p, xs, i, z, rfl, rfl, hq, he, q⟩ := h
  cases rx
  obtain ⟨t, rfl⟩ := ry
  obtain ⟨its, r, pl, hz⟩ := I.list hq
  obtain ⟨j, h1, h2, h3, h4, h5⟩ := atI_get he
  obtain ⟨w, ew, rw'⟩ := r.get h2
  have hl := r.length
  have hn := line63
  have fin : EP X pins σ Q w s := ⟨z, H, I, rw', q⟩
  by_cases h0 : 0 ≤ i
  · have hj : i.toNat = j := by
      rw [seqIndex_of h0 h5] at h1
      exact Option.some.inj h1
    exact item_listR pl.isList h0 (by omega) (by rw [hj]; simpa using ew) fin hs
  · have hj : (i + (its.toArray.size : Int)).toNat = j := by
      rw [seqIndex_neg (by omega) h4] at h1
      rw [List.size_toArray, ← hl]
      exact Option.some.inj h1
    exact subscriptTail_builtinR (x := w) pl.isList.typeIs slot_list_getitem.lookup
      (wpAny_getItem_list_neg (Q := fun r s' => r = w ∧ EP X pins σ Q r s') pl.isList (by omega) (by rw [List.size_toArray] <;> omega) (by omega) (by rw [hj]; simpa using ew) ⟨rfl, fin⟩) hs
theorem ix_str : IxR X rIxS := by
  intro value slice pins s σ H x y v u Q I rx ry h hs
  obtain ⟨z, i, c, rfl, rfl, hz, he, q⟩ := h
  obtain ⟨t, rfl⟩ := rx
  obtain ⟨t', rfl⟩ := ry
  obtain ⟨j, h1, h2, h3, h4, h5⟩ := atI_get he
  have hl : z.cps.toList.length = z.length := by simp [Str.length]
  rw [hl] at h1 h4 h5
  have hn := line63
  exact tail_any (typeIs_str s z t) slot_str_getitem.lookup (getItem_str (c := c) (by
    have e1 : decide (i < -(2 ^ 63 : Int)) = false := decide_eq_false (by omega)
    have e2 : decide (i ≥ 2 ^ 63) = false := decide_eq_false (by omega)
    rw [e1, e2, Bool.or_false]) (by rw [h1]; simpa using h2) ⟨.str ⟨#[c]⟩, H, I.tok _, ⟨_, rfl⟩, q⟩) hs
theorem mapSeq_set (its : List Value) (n j : Nat) (u : Value) : Obj.mapSeq (·.setIfInBounds j u) { cls := .type "list", data := .seq its.toArray n } = { cls := .type "list", data := .seq (its.set j u).toArray n } := by
  simp [Obj.mapSeq]
theorem Inv.lst {pins : List (Addr × Obj)} {σ : St} {H : Hp} {s : Shared} {p : Addr} {xs : List V} (I : Inv X pins σ H s) (h : H p = some (.lst xs)) :
    ∃ (its : List Value) (n : Nat), Vals xs its ∧ s.heap.get? p = some { cls := .type "list", data := .seq its.toArray n } ∧ xs.length ≤ sizeLine := by
  obtain ⟨z, its, n, r, e⟩ := I.hok p _ h
  exact ⟨its, n, r, e, z⟩
theorem Inv.lstUpd {pins : List (Addr × Obj)} {σ : St} {H : Hp} {s : Shared} {p : Addr} {xs ys : List V} {its its' : List Value} {n n' : Nat} {f : Obj → Obj} (I : Inv X pins σ H s) (h : H p = some (.lst xs))
    (ho : s.heap.get? p = some { cls := .type "list", data := .seq its.toArray n }) (hf : f { cls := .type "list", data := .seq its.toArray n } = { cls := .type "list", data := .seq its'.toArray n' }) (r : Vals ys its') (hz : ys.length ≤ sizeLine) (t : Nat) :
    Inv X pins σ (upd H p (.lst ys)) { s with heap := s.heap.update p f, toks := t } := by
  have e : (s.heap.update p f).get? p = some { cls := .type "list", data := .seq its'.toArray n' } := by
    rw [Heap.get?_update_self f ho (by rw [hf] <;> rfl), hf]
  refine I.write (x := p) (e := p) (by rw [h]; trivial) (.inl rfl) (fun b u hb q => (Heap.get?_update_other _ _ (Ne.symm hb)).trans q) ⟨_, e⟩ ?_
  exact ⟨hz, its', n', r, e⟩
def rSetL : V → V → V → Hp → (Hp → Prop) → Prop := fun o i v H Q => ∃ p xs k j, o = .ref p ∧ i = .int k ∧ H p = some (.lst xs) ∧ ixN xs.length k = some j ∧ Q (upd H p (.lst (xs.set j v)))
theorem set_list : PSet X rSetL := by
  intro pins s σ H o i v ov iv u Q I ro ri rv h
  obtain ⟨p, xs, k, j, rfl, rfl, hp, hj, q⟩ := h
  cases ro
  obtain ⟨t, rfl⟩ := ri
  obtain ⟨its, n, r, ho, hz⟩ := I.lst hp
  obtain ⟨h1, h2, h3, h4⟩ := ixN_seq hj
  have hl := r.length
  have hn := line63
  have I' : Inv X pins σ (upd H p (.lst (xs.set j v))) { s with heap := s.heap.update p (Obj.mapSeq (·.setIfInBounds j u)) } :=
    I.lstUpd hp ho (mapSeq_set its n j u) (r.set rv j) (by rw [List.length_set]; exact hz) s.toks
  by_cases h0 : 0 ≤ k
  · have hk : k.toNat = j := by
      rw [seqIndex_of h0 h4] at h1
      exact Option.some.inj h1
    exact PySem.W.ki_setAt ho h0 (by omega) (by rw [List.size_toArray, ← hl]; exact h4) (by rw [hk]; exact ⟨_, I', q⟩)
  · have hk : (k + (its.toArray.size : Int)).toNat = j := by
      rw [seqIndex_neg (by omega) h3] at h1
      rw [List.size_toArray, ← hl]
      exact Option.some.inj h1
    exact PySem.W.ki_setBack ho (by omega) (by rw [List.size_toArray, ← hl]; exact h3) (by omega) (by rw [hk]; exact ⟨_, I', q⟩)
def flatV : V → Bool
  | .non => true
  | .bl _ => true
  | .int _ => true
  | .str _ => true
  | _ => false
def eqV : V → V → Bool
  | .non, .non => true
  | .bl a, .bl b => a == b
  | .bl a, .int b => (if a then 1 else 0) == b
  | .int a, .bl b => a == (if b then 1 else 0)
  | .int a, .int b => a == b
  | .str a, .str b => a == b
  | _, _ => false
theorem eqAt_V {A : Around} {s : Shared} {y x : V} {u v : Value} (ry : RelV y u) (rx : RelV x v) (fy : flatV y = true) (fx : flatV x = true) : SeqAt.EqAt A s u v (eqV y x) := by
  cases y with
  | non =>
    cases ry
    cases x with
    | non => cases rx; exact SeqAt.EqAt.same _
    | bl b => cases rx; exact SeqAt.EqAt.none_bool b
    | int b => obtain ⟨t, rfl⟩ := rx; exact SeqAt.EqAt.none_int b t
    | str b => obtain ⟨t, rfl⟩ := rx; exact SeqAt.EqAt.none_str b t
    | _ => exact absurd (show false = true from fx) Bool.false_ne_true
  | bl a =>
    cases ry
    cases x with
    | non => cases rx; exact SeqAt.EqAt.bool_none a
    | bl b => cases rx; exact SeqAt.EqAt.bool_bool a b
    | int b => obtain ⟨t, rfl⟩ := rx; exact SeqAt.EqAt.bool_int a b t
    | str b => obtain ⟨t, rfl⟩ := rx; exact SeqAt.EqAt.bool_str a b t
    | _ => exact absurd (show false = true from fx) Bool.false_ne_true
  | int a =>
    obtain ⟨t', rfl⟩ := ry
    cases x with
    | non => cases rx; exact SeqAt.EqAt.int_none a t'
    | bl b => cases rx; exact SeqAt.EqAt.int_bool a t' b
    | int b => obtain ⟨t, rfl⟩ := rx; exact SeqAt.EqAt.int_int a t' b t
    | str b => obtain ⟨t, rfl⟩ := rx; exact SeqAt.EqAt.int_str a t' b t
    | _ => exact absurd (show false = true from fx) Bool.false_ne_true
  | str a =>
    obtain ⟨t', rfl⟩ := ry
    cases x with
    | non => cases rx; exact SeqAt.EqAt.str_none a t'
    | bl b => cases rx; exact SeqAt.EqAt.str_bool a t' b
    | int b => obtain ⟨t, rfl⟩ := rx; exact SeqAt.EqAt.str_int a t' b t
    | str b => obtain ⟨t, rfl⟩ := rx; exact SeqAt.EqAt.str_str a t' b t
    | _ => exact absurd (show false = true from fx) Bool.false_ne_true
  | _ => exact absurd (show false = true from fy) Bool.false_ne_true
def eqU (x : V) (u : Value) : Bool := match u with
  | .none => eqV .non x
  | .bool b => eqV (.bl b) x
  | .int i _ => eqV (.int i) x
  | .str z _ => eqV (.str z) x
  | _ => false
theorem eqU_of {x y : V} {u : Value} (r : RelV y u) (f : flatV y = true) : eqU x u = eqV y x := by
  cases y with
  | non => cases r; rfl
  | bl b => cases r; rfl
  | int i => obtain ⟨t, rfl⟩ := r; rfl
  | str z => obtain ⟨t, rfl⟩ := r; rfl
  | _ => exact absurd (show false = true from f) Bool.false_ne_true
theorem mem_eqAt {A : Around} {s : Shared} {x : V} {v : Value} (rx : RelV x v) (fx : flatV x = true) : ∀ {xs : List V} {us : List Value}, Vals xs us → xs.all flatV = true → ∀ u ∈ us, SeqAt.EqAt A s u v (eqU x u)
  | _, _, .nil, _ => fun u hu => by cases hu
  | y :: xs, u :: us, .cons r t, f => fun u' hu => by
    rw [List.all_cons, Bool.and_eq_true] at f
    rcases List.mem_cons.mp hu with rfl | hu
    · rw [eqU_of r f.1]; exact eqAt_V r rx f.1 fx
    · exact mem_eqAt rx fx t f.2 u' hu
theorem call_len_seq : CallR X (.builtin "len") (fun xs H Q => ∃ p ys, xs = [.ref p] ∧ (SqL X.K H p ys ∨ SqT X.K H p ys) ∧ Q (.int ys.length) H) := by
  intro pins s σ H xs us Q I r h
  obtain ⟨p, ys, rfl, hq, q⟩ := h
  obtain ⟨u, rfl, rx⟩ := vals1 r
  cases rx
  have hn := line63
  rcases hq with hq | hq
  · obtain ⟨its, r', pl, hz⟩ := I.list hq
    have hlen := r'.length
    exact Calls.call_len_list pl.isList (by simp only [List.size_toArray] <;> omega) ⟨.int ys.length, H, I.tok _, ⟨s.toks + 1, by rw [List.size_toArray, hlen]⟩, q⟩
  · obtain ⟨its, r', pl, hz⟩ := I.tuple hq
    have hlen := r'.length
    exact len_tuple pl (by simp only [List.size_toArray] <;> omega) ⟨.int ys.length, H, I.tok _, ⟨s.toks + 1, by rw [List.size_toArray, hlen]⟩, q⟩
theorem call_len_str : CallR X (.builtin "len") (fun xs H Q => ∃ z, xs = [.str z] ∧ z.length ≤ sizeLine ∧ Q (.int z.length) H) := by
  intro pins s σ H xs us Q I r h
  obtain ⟨z, rfl, hz, q⟩ := h
  obtain ⟨u, rfl, t, rfl⟩ := vals1 r
  have hn := line63
  exact len_str (by omega) ⟨.int z.length, H, I.tok _, ⟨_, rfl⟩, q⟩
theorem CallR.or {f : Value} {r r' : List V → Hp → VK → Prop} (h : CallR X f r) (h' : CallR X f r') : CallR X f (fun xs H Q => r xs H Q ∨ r' xs H Q) := by
  intro pins s σ H xs us Q I rs q
  rcases q with q | q
  · exact h pins s σ H xs us Q I rs q
  · exact h' pins s σ H xs us Q I rs q
theorem call_list_of : CallR X (.type "list") (fun xs H Q => ∃ p ys, xs = [.ref p] ∧ (SqL X.K H p ys ∨ SqT X.K H p ys) ∧ ∀ l, H l = none → Q (.ref l) (upd H l (.lst ys))) := by
  intro pins s σ H xs us Q I r h
  obtain ⟨p, ys, rfl, hq, q⟩ := h
  obtain ⟨u, rfl, rx⟩ := vals1 r
  cases rx
  have fin : ∀ (its : List Value), Vals ys its → ys.length ≤ sizeLine → ∀ (h' : Heap) (c' : Nat), (∀ b o', s.heap.get? b = some o' → h'.get? b = some o') →
      h'.get? s.heap.objs.size = some { cls := .type "list", dict := none, data := .seq its.toArray c', slots := #[] } → EP X pins σ Q (.ref s.heap.objs.size) { s with heap := h' } := fun its r' hz h' c' kp e =>
    ⟨.ref s.heap.objs.size, _, I.laid (t' := s.toks) kp (Nat.le_refl _) (show ObjOk X.prog X.w _ h' _ (.lst ys) from ⟨hz, its, c', r', e⟩), rfl, q _ (I.hok.fresh (Nat.le_refl _))⟩
  rcases hq with hq | hq
  · obtain ⟨its, r', pl, hz⟩ := I.list hq
    have hlen := r'.length
    obtain ⟨o, ho, hc, n, hd⟩ := pl.isList
    exact call_list_seq p (.inl rfl) ho hc hd (fun h' c' kp e => fin its r' hz h' c' kp e) (by simp only [List.size_toArray] <;> omega)
  · obtain ⟨its, r', pl, hz⟩ := I.tuple hq
    have hlen := r'.length
    obtain ⟨o, ho, hc, n, hd⟩ := pl
    exact call_list_seq p (.inr rfl) ho hc hd (fun h' c' kp e => fin its r' hz h' c' kp e) (by simp only [List.size_toArray] <;> omega)
def tyV (K : PySem.W.Frag) (T : String) (x : V) (H : Hp) : Prop := match x with
  | .str _ => T = "str"
  | .int _ => T = "int"
  | .ref p => (T = "list" ∧ ∃ xs, SqL K H p xs) ∨ (T = "tuple" ∧ ∃ o, K.lookup p = some o ∧ o.cls = .type "tuple" ∧ o.dict = none) ∨
      (T = "dict" ∧ ((∃ kvs, H p = some (.dK kvs)) ∨ ∃ kvs, H p = some (.dT kvs))) ∨ (T = "set" ∧ ∃ S n, H p = some (.set S n))
  | _ => False
theorem tyV_is {pins : List (Addr × Obj)} {σ : St} {H : Hp} {s : Shared} {T : String} {x : V} {v : Value} (I : Inv X pins σ H s) (r : RelV x v) (ty : tyV X.K T x H) :
    s.TypeIs v T ∧ ∀ a, v = .ref a → ∃ ob, s.heap.get? a = some ob ∧ ob.dict = none := by
  cases x with
  | str z =>
    obtain ⟨t, rfl⟩ := r
    cases (show T = "str" from ty)
    exact ⟨typeIs_str s z t, fun _ e => nomatch e⟩
  | int i =>
    obtain ⟨t, rfl⟩ := r
    cases (show T = "int" from ty)
    exact ⟨typeIs_int s i t, fun _ e => nomatch e⟩
  | ref p =>
    cases r
    rcases ty with ⟨rfl, xs, hq⟩ | ⟨rfl, o, hk, hc, hd⟩ | ⟨rfl, hk⟩ | ⟨rfl, S, n, hk⟩
    · obtain ⟨its, _, pl, _⟩ := I.list hq
      refine ⟨pl.isList.typeIs, fun a e => ?_⟩
      cases e
      obtain ⟨o, n, e, c, hd, _⟩ := pl
      exact ⟨o, e, hd⟩
    · refine ⟨⟨o, I.kIn p o hk, hc⟩, fun a e => ?_⟩
      cases e
      exact ⟨o, I.kIn _ o hk, hd⟩
    · have z : ∃ o, s.heap.get? p = some o ∧ o.ExactDict := by
        rcases hk with ⟨kvs, hk⟩ | ⟨kvs, hk⟩
        · obtain ⟨_, _, _, _, o, _, _, e, ex, _⟩ := I.hok p _ hk
          exact ⟨o, e, ex⟩
        · obtain ⟨_, _, _, _, o, _, _, e, ex, _⟩ := I.hok p _ hk
          exact ⟨o, e, ex⟩
      obtain ⟨o, e, ex⟩ := z
      refine ⟨⟨o, e, ex.1⟩, fun a e2 => ?_⟩
      cases e2
      exact ⟨o, e, ex.2.1⟩
    · obtain ⟨o, _, _, _, e, ex, _⟩ := I.hok p _ hk
      refine ⟨⟨o, e, ex.1⟩, fun a e2 => ?_⟩
      cases e2
      exact ⟨o, e, ex.2.1⟩
  | _ => exact False.elim ty
def tBM (K : PySem.W.Frag) (T : String) (r : V → List V → Hp → VK → Prop) (to : TE) (t : TA) : TE := fun σ H Q => to σ H fun x H1 => tyV K T x H1 ∧ t σ H1 fun xs H2 => r x xs H2 Q
variable {o e : Expr} {es : List Expr} {to : TE} {t : TA} {name : Str} {apos cpos : Pos} {T id : String} {r : V → List V → Hp → VK → Prop}
theorem pe_bm (pa : PlainAttrs T) (slot : Slot T name id) (hty : typeOf (.builtin id) = pure (.type "method_descriptor")) (hm : MtR X id r) (ho : PE X o to) (ha : PA X (e :: es) t)
    (hbase : attributeBase o name X.env (eval o X.env) = eval o X.env := by rfl)
    (hfew : ((backTo cpos (starEach (e :: es) X.env)).all (fun x => !x.1) && (backToKw cpos (keywordEach [] X.env)).all (fun x => x.1.isSome)
      && decide ((e :: es).length + ([] : List Keyword).length + (if ([] : List Keyword).isEmpty then 0 else 1) < 30)) = true := by rfl)
    (hline : (apos.endLine == cpos.line) = true := by rfl) (hs : starEach (e :: es) X.env = (false, eval e X.env) :: starEach es X.env := by rfl) (hplain : (backTo cpos (starEach es X.env)).any (·.1) = false := by rfl) :
    PE X (.Call (.Attribute o name apos) (e :: es) [] cpos) (tBM X.K T r to t) := by
  intro pins s σ H Q I h
  refine wpAny_Call_method_late hbase hfew hline rfl (thn (ho pins s σ H _ I h) fun v s1 ⟨x, H1, I1, r1, ty, q1⟩ => ?_)
  obtain ⟨h1, h2⟩ := tyV_is I1 r1 ty
  refine ⟨T, id, pa, slot, hty, h1, h2, ?_⟩
  have hA := ha cpos pins s1 σ H1 _ I1 q1
  rw [hs] at hA ⊢
  refine Calls.callWith_builtin (by show (false || (backTo cpos (starEach es X.env)).any (·.1)) = false; rw [hplain] <;> rfl) (Calls.evalArgs_plain ?_)
  exact thn hA fun us s2 ⟨vs, H2, I2, r2, q2⟩ => hm pins s2 σ H2 x vs v us Q I2 r1 r2 q2
end
end L2
namespace L2
open PySem PySem.Spec PyProof.Rows
def MtM (X : Cx) (id : String) (r : V → List V → Hp → VK → Prop) : Prop :=
  ∀ (pins : List (Addr × Obj)) (s : Shared) (σ : St) (H : Hp) (x : V) (xs : List V) (v : Value) (us : List Value) (Q : VK), Inv X pins σ H s → RelV x v → Vals xs us → r x xs H Q →
    wpAny (model X.prog X.w) X.A (call (.builtin id) (v :: us)) (EP X pins σ Q) X.xe s
theorem Vals.one : ∀ {x : V} {us : List Value}, Vals [x] us → ∃ u, us = [u] ∧ RelV x u
  | _, _, .cons r .nil => ⟨_, rfl, r⟩
theorem Vals.two : ∀ {x y : V} {us : List Value}, Vals [x, y] us → ∃ u v, us = [u, v] ∧ RelV x u ∧ RelV y v
  | _, _, _, .cons r (.cons q .nil) => ⟨_, _, rfl, r, q⟩
theorem Vals.zero : ∀ {us : List Value}, Vals [] us → us = []
  | _, .nil => rfl
section
variable {X : Cx} {pins : List (Addr × Obj)} {σ : St} {H : Hp} {s : Shared} {l b : Addr} {xs ys zs : List V}
theorem Inv.lset {its its' : List Value} {n : Nat} {f : Array Value → Array Value} {t' : Nat} (I : Inv X pins σ H s) (hH : H l = some (.lst xs))
    (e : s.heap.get? l = some { cls := .type "list", data := .seq its.toArray n }) (hf : f its.toArray = its'.toArray) (hv : Vals ys its') (hz : ys.length ≤ sizeLine) :
    Inv X pins σ (upd H l (.lst ys)) { s with heap := s.heap.update l (Obj.mapSeq f), toks := t' } := by
  have q := PySem.IsL.update e f
  rw [hf] at q
  refine I.write (x := l) (e := l) (by rw [hH]; exact trivial) (.inl rfl) (fun b' u hb hu => (Heap.get?_update_other s.heap (Obj.mapSeq f) (Ne.symm hb)).trans hu) ⟨_, q⟩ ?_
  exact ⟨hz, its', _, hv, q⟩
theorem Inv.lnew {its : List Value} {t' : Nat} (I : Inv X pins σ H s) (hv : Vals ys its) (hz : ys.length ≤ sizeLine) :
    Inv X pins σ (upd H s.heap.objs.size (.lst ys)) { s with heap := s.heap.push { cls := .type "list", data := .seq its.toArray }, toks := t' } :=
  I.laid (fun _ _ q => Heap.get?_push_of_some _ q) (Nat.le_refl _) ⟨hz, its, 0, hv, Heap.get?_push_size _ rfl⟩
theorem Inv.fresh (I : Inv X pins σ H s) : H s.heap.objs.size = none := I.hok.fresh (Nat.le_refl _)
theorem Inv.lstM (I : Inv X pins σ H s) (hH : H l = some (.lst xs)) : xs.length ≤ sizeLine ∧ ∃ (its : List Value) (n : Nat), Vals xs its ∧ xs.length = its.length ∧ s.heap.get? l = some { cls := .type "list", data := .seq its.toArray n } := by
  obtain ⟨z, its, n, r, e⟩ := I.hok l _ hH
  exact ⟨z, its, n, r, r.length, e⟩
end
section
variable {X : Cx}
def rAppend : V → List V → Hp → VK → Prop := fun x vs H Q => ∃ l xs y, x = .ref l ∧ vs = [y] ∧ H l = some (.lst xs) ∧ xs.length < sizeLine ∧ Q .non (upd H l (.lst (xs ++ [y])))
theorem mt_append : MtM X "list.append" rAppend := by
  intro pins s σ H x vs v us Q I rx rv h
  obtain ⟨l, xs, y, rfl, rfl, hH, hz, q⟩ := h
  cases rx
  obtain ⟨u, rfl, ru⟩ := rv.one
  obtain ⟨z, its, n, r, hl, e⟩ := I.lstM hH
  refine call_meets F.slot_list_append ⟨_, e, rfl⟩ F.entry_list_append (F.args_list_append_2 _ _) (PySem.list_append l its.toArray n u (by rw [List.size_toArray]; omega)) ⟨e, ?_⟩
  refine ⟨.non, _, I.lset (its' := its ++ [u]) hH e (by simp) (r.append (.cons ru .nil)) ?_, rfl, q⟩
  rw [List.length_append, List.length_singleton]
  omega
def rCat : R2 := fun x y H Q => ∃ l b xs zs, x = .ref l ∧ y = .ref b ∧ H l = some (.lst xs) ∧ H b = some (.lst zs) ∧ xs.length + zs.length ≤ sizeLine ∧ ∀ p, H p = none → Q (.ref p) (upd H p (.lst (xs ++ zs)))
theorem op_cat : OpR X (binaryOp .Add) rCat := by
  intro pins s σ H x y v u Q I rx ry h
  obtain ⟨l, b, xs, zs, rfl, rfl, hH, hB, hz, q⟩ := h
  cases rx
  cases ry
  obtain ⟨z, its, n, r, hl, e⟩ := I.lstM hH
  obtain ⟨z2, its2, n2, r2, hl2, e2⟩ := I.lstM hB
  refine PySem.P.add_list e e2 ?_ (by rw [List.size_toArray, List.size_toArray]; omega)
  have ea : its.toArray ++ its2.toArray = (its ++ its2).toArray := by simp
  rw [ea]
  exact ⟨.ref _, _, I.lnew (t' := s.toks) (r.append r2) (by rw [List.length_append]; omega), rfl, q _ I.fresh⟩
end
section
variable {prog : Program} {w : World} {A : Around} {E : Value → Shared → Prop} {s : Shared}
set_option maxRecDepth 100000 in
end
section
variable {X : Cx}
end
end L2
namespace Att
open PySem PySem.W PySem.Calls PyProof.Rows
theorem ints_of_wellAll {P : Params} {h : Heap} : ∀ (ns : List Int) (vs : List Value), WellAll P h vs (ns.map WData.int) → IntsAre vs ns := by
  intro ns
  induction ns with
  | nil =>
    intro vs w
    rw [List.map_nil] at w
    cases w
    exact .nil
  | cons n ns ih =>
    intro vs w
    rw [List.map_cons] at w
    cases w with
    | cons a b =>
      cases a
      exact .cons _ _ (ih _ b)
theorem script_of {l : OpenLaw} {n : Nat} (hn : l.most = some n) {P : Params} {h : Heap} {args : List WData} {vals : List Value}
    (hpre : l.row.toRowW.claim.pre args = true) (hwl : WellAll P h vals args) :
    ∃ a vs ns, vals = [Value.ref a] ∧ args = [WData.list (ns.map WData.int)] ∧ h.get? a = some { cls := .type "list", data := .seq vs.toArray } ∧ IntsAre vs ns ∧ ns.length ≤ n := by
  have hsh : WShape.hasAll [] args [.list .int] = true := (pre_splitW hpre).1
  have hc : l.pre.holds [] { args := args } = true := (pre_splitW hpre).2
  obtain ⟨d, r, rfl, h1, h2⟩ := hasAllW_cons hsh
  obtain rfl := hasAllW_nil h2
  obtain ⟨xs, rfl, h3⟩ := hasW_list h1
  obtain ⟨ns, rfl⟩ := items_int h3
  have hlen : ns.length ≤ n := by
    unfold OpenLaw.pre at hc
    have h4 : (WTm.not (.lt (.lit (.int (n : Int))) (.len (.arg 0)))).holds [] { args := [.list (ns.map .int)] } = true := by
      have h4 := (holds_andW hc).1
      rw [hn] at h4
      exact h4
    have h5 := condW_of h4 (w_not (w_lt w_lit (w_len_list (w_arg rfl))))
    rw [List.length_map] at h5
    refine Nat.le_of_not_lt fun q => ?_
    have q' : (n : Int) < ((ns.length : Nat) : Int) := by omega
    first
      | (rw [decide_eq_true q'] at h5; exact absurd h5 (by decide))
      | (simp at h5; omega)
  cases hwl with
  | cons w1 w2 =>
    cases w2
    cases w1 with
    | list ho hall => exact ⟨_, _, ns, rfl, rfl, ho, ints_of_wellAll ns _ hall, hlen⟩
theorem post_true (l : OpenLaw) (args : List WData) : l.row.toRowW.claim.post args (.bool true) args = true :=
  postW_of (r := l.row.toRowW) (X := (true == true))
    (show WShape.has [] (.bool true) .bool = true by first | rfl | decide | simp [WShape.has, WShape.arms, WShape.armsAll])
    (show (WTm.eq .res (.lit (.bool true))).value [] { args := args, res := some (.bool true), after := args } = some (.bool (true == true)) from w_eq_bool (w_res rfl) w_lit) rfl
theorem attach_call {l : OpenLaw} {n : Nat} {q : Program} {loose : List Str} {XP : (Str → Option Value) → Heap → Prop} {YP : World → Heap → Prop} {d : DefRec}
    (hn : l.most = some n) (hdf : d.params.defaults = [])
    (call : ∀ (w : World) (s₀ s₁ : Shared) (mg mb : Str → Option Value) (fa : Addr) (o : Obj) (pm cd doc : Value) (a : Addr) (vs : List Value) (ns : List Int),
      Ground q loose [] XP w s₀ mg mb s₁.heap → YP w s₁.heap →
      s₁.heap.get? fa = some o → o.data = .func (docDef d.name d.params d.body d.scope pm cd doc) → s₁.heap.CodeRec cd d.name → mg d.name = some (.ref fa) →
      s₁.heap.get? a = some { cls := .type "list", data := .seq vs.toArray } → IntsAre vs ns → ns.length ≤ n → s₁.gens = #[] →
      codeAny (model l.prog w) callerA (.call (.ref fa) ⟨[.ref a], []⟩) (fun r s' => r = .ok (.ret (.bool true)) ∧ OldK s₁.heap s'.heap ∧ s'.os = s₁.os ∧ AllBare s'.gens) s₁) :
    WalkO q loose XP YP l.row.toRowW d [] (fun f vs => PySem.call f vs) := by
  intro w s₀ s₁ mg mb G Y fa o pm cd doc dV kV ho hd hcd hD hmg hg args vals as hpre hlay hrd hwl hlo
  obtain rfl : dV = .none := Dflts.none hD hdf
  obtain rfl : kV = .none := Dflts.noKw hD
  obtain ⟨a, vs, ns, rfl, rfl, hobj, hints, hlen⟩ := script_of hn hpre hwl
  refine enter_call (codeAny_mono (call w s₀ s₁ mg mb fa o pm cd doc a vs ns G Y ho (fd_plain hd) hcd hmg hobj hints hlen hg) fun r s' hq => ?_)
  obtain ⟨rfl, h2, h3, h4⟩ := hq
  exact ⟨.inl ⟨.bool true, .bool true, [], rfl, fun _ => rfl, .bool true, post_true l _, fun _ => ⟨List.Pairwise.nil, fun _ hm => (nomatch hm)⟩⟩, h2, h3, h4⟩
section
variable {prog : Program} {w : World} {A : Around} {E : Value → Shared → Prop} {s : Shared} {K : Frag}
end
end Att
namespace L2
open PySem PySem.Spec PyProof.Rows
theorem vals_ints : ∀ {vs : List Value} {ns : List Int}, IntsAre vs ns → Vals (ns.map V.int) vs
  | _, _, .nil => .nil
  | _, _, .cons n t h => .cons ⟨t, rfl⟩ (vals_ints h)
def Only (H : Hp) : Prop := ∀ b, H b = none ∨ ∃ o xs, H b = some (.frz o (.lst xs))
theorem law_call {P : Program} {w : World} {K : PySem.W.Frag} {mg mb : Str → Option Value} {CX : CXT} {k : Nat} {fa a : Addr} {fd : FuncData} {x : Str} {sp : Sp} {s₁ : Shared} {vs : List Value} {ns : List Int}
    (KX : K.In s₁.heap) (hns : s₁.heap.Ns mainGlobals mg) (hb : s₁.heap.Ns builtinsNs mb) (hbb : ∀ x : Str, x ≠ "__name__" → mb x = bootBuiltins x) (hlim : s₁.heap.NoLimit) (hg : s₁.gens = #[])
    (ha : s₁.heap.get? a = some { cls := .type "list", data := .seq vs.toArray }) (hi : IntsAre vs ns) (hl : ns.length ≤ sizeLine) (hr : Room k callerA)
    (F : ∀ base : Heap, K.In base → base.Ns mainGlobals mg → FnOk P w K mg base CX k fa fd [x] sp) (hbind : ∀ (s : Shared) (u : Value), BindsTo s fd ⟨[u], []⟩ [(x, u)])
    (hsp : ∀ H : Hp, Only H → SqL K H a (ns.map V.int) → sp [.ref a] H (fun v _ => v = .bl true) fun _ _ _ => False)
    (hCX : ∀ H e s', CX [] H s₁ (fun _ _ _ => False) e s' → False) :
    codeAny (model P w) callerA (.call (.ref fa) ⟨[.ref a], []⟩) (fun r s' => r = .ok (.ret (.bool true)) ∧ OldK s₁.heap s'.heap ∧ s'.os = s₁.os ∧ AllBare s'.gens) s₁ := by
  have rv := vals_ints hi
  have lenV := hi.length
  have core : ∀ H : Hp, Only H → SqL K H a (ns.map V.int) → HOk P w H s₁.heap → (∀ b, H b ≠ none → b = a) → (H a ≠ none → K.lookup a = none) →
      codeAny (model P w) callerA (.call (.ref fa) ⟨[.ref a], []⟩) (fun r s' => r = .ok (.ret (.bool true)) ∧ OldK s₁.heap s'.heap ∧ s'.os = s₁.os ∧ AllBare s'.gens) s₁ := by
    intro H hO hS hok hA hK
    have base_of : ∀ {b : Addr} {o : Obj}, s₁.heap.get? b = some o → H b = none → (hidT s₁.heap H).get? b = some o := fun e n => hidT_get e n
    have noA : ∀ {b : Addr} {o : Obj} {es : Array DictEntry} {ep : Nat}, s₁.heap.get? b = some o → o.data = .dict es ep → H b = none := fun {b o es ep} e d => by
      cases q : H b with
      | none => rfl
      | some u =>
        have e' : b = a := hA b (by rw [q]; simp)
        subst e'
        rw [ha] at e; cases e
        have d' : Data.seq vs.toArray _ = Data.dict es ep := d
        cases d'
    have nsK : ∀ {b : Addr} {m : Str → Option Value}, s₁.heap.Ns b m → (hidT s₁.heap H).Ns b m := fun {b m} ⟨o, es, ep, e, d, r⟩ => ⟨o, es, ep, base_of e (noA e d), d, r⟩
    have hKb : K.In (hidT s₁.heap H) := fun b o e => base_of (KX b o e) (by
      cases q : H b with
      | none => rfl
      | some u =>
        have e' : b = a := hA b (by rw [q]; simp)
        subst e'
        rw [hK (by rw [q]; simp)] at e; cases e)
    have hM : Mod K mg (hidT s₁.heap H) := ⟨hKb, nsK hns, ⟨mb, nsK hb, hbb⟩, let ⟨mc, h1, h2⟩ := hlim; ⟨mc, nsK h1, h2⟩⟩
    have e0 : Env0 P w K mg (hidT s₁.heap H) callerA [] s₁ H := ⟨rfl, hM, fun b o e => of_hidT e, Nat.le_of_eq (hidT_size _ _), trivial, fun b hb => absurd (show b ∈ ([] : List Addr) from hb) (by simp), hok, .of_eq hg⟩
    refine codeAny_mono ((F _ hKb (nsK hns)).run callerA [] s₁ H ⟨[.ref a], []⟩ [.ref a] [.ref a] _ _ hr e0 (hbind s₁ (.ref a)) (.cons rfl .nil) (hsp H hO hS)) fun r s' h => ?_
    cases r with
    | error e => exact (hCX H e s' h).elim
    | ok fl =>
      cases fl with
      | next => exact False.elim h
      | brk => exact False.elim h
      | cont => exact False.elim h
      | ret u =>
        obtain ⟨v, H', os, bare, un, hok', r', q⟩ := h
        have q' : v = .bl true := q
        subst q'
        obtain rfl : u = Value.bool true := r'
        refine ⟨rfl, OldK.of_keep fun b o e => ?_, os, bare⟩
        cases q : H b with
        | none => exact un.keep b o e q (by intro z; exact absurd (show b ∈ ([] : List Addr) from z) (by simp)) (by simp)
        | some u =>
          rcases hO b with z | ⟨ob, xs, z⟩
          · rw [q] at z; cases z
          · have z2 := un.frzs b ob _ z
            obtain ⟨e1, _⟩ := hok b _ z
            obtain ⟨e2, _⟩ := hok' b _ z2
            rw [e] at e1; cases e1
            exact e2
  cases hk : K.lookup a with
  | some o =>
    have e := KX a o hk
    rw [ha] at e
    cases e
    refine core (fun _ => none) (fun _ => .inl rfl) (.inr ⟨_, vs.toArray, _, hk, rfl, rfl, rfl, by rw [List.size_toArray, lenV]; exact hl, by simpa using rv⟩) (fun b u z => by have z' : (none : Option HO) = some u := z; cases z') (fun b z => absurd rfl z) fun z => absurd rfl z
  | none =>
    refine core (fun b => if b = a then some (.frz { cls := .type "list", data := .seq vs.toArray } (.lst (ns.map V.int))) else none) (fun b => ?_) (.inl (.inr ⟨{ cls := .type "list", data := .seq vs.toArray }, if_pos rfl⟩)) (fun b u z => ?_) (fun b z => ?_) fun _ => hk
    · by_cases hb : b = a
      · exact .inr ⟨_, _, if_pos hb⟩
      · exact .inl (if_neg hb)
    · by_cases hb : b = a
      · have z' := (if_pos hb).symm.trans z
        cases z'
        subst hb
        exact ⟨ha, by rw [List.length_map]; exact hl, vs, _, rv, ha⟩
      · have z' := (if_neg hb).symm.trans z
        cases z'
    · by_cases hb : b = a
      · exact hb
      · exact absurd (if_neg hb) z
end L2
namespace L2
open PySem PySem.Spec PyProof.Rows
theorem walk_of {l : PySem.W.OpenLaw} {n k : Nat} {q : Program} {loose : List Str} {XP : (Str → Option Value) → Heap → Prop} {YP : World → Heap → Prop} {d : DefRec} {K : Params → PySem.W.Frag} {CX : World → CXT} {sp : World → Sp} {x : Str}
    (hn : l.most = some n) (hn2 : n ≤ sizeLine) (hdf : d.params.defaults = []) (hr : Room k callerA)
    (hY : ∀ (w : World) (h : Heap), YP w h → (K w.params).In h)
    (F : ∀ (w : World) (mg : Str → Option Value) (fa : Addr) (h : Heap), (K w.params).In h → h.Ns mainGlobals mg → mg d.name = some (.ref fa) →
      ∃ fd : FuncData, (∀ (s : Shared) (u : Value), BindsTo s fd ⟨[u], []⟩ [(x, u)]) ∧
        ∀ base : Heap, (K w.params).In base → base.Ns mainGlobals mg → FnOk l.prog w (K w.params) mg base (CX w) k fa fd [x] (sp w))
    (hsp : ∀ (w : World) (H : Hp) (a : Addr) (ns : List Int), ns.length ≤ n → Only H → SqL (K w.params) H a (ns.map V.int) → sp w [.ref a] H (fun v _ => v = .bl true) fun _ _ _ => False)
    (hCX : ∀ (w : World) (H : Hp) (s : Shared) (e : Value) (s' : Shared), CX w [] H s (fun _ _ _ => False) e s' → False) :
    PySem.W.WalkO q loose XP YP l.row.toRowW d [] (fun f vs => PySem.call f vs) := by
  refine Att.attach_call hn hdf fun w s₀ s₁ mg mb fa o pm cd doc a vs ns G Y ho hd hcd hmg hobj hints hlen hg => ?_
  have KX := hY w _ Y
  obtain ⟨fd, hb, hF⟩ := F w mg fa _ KX G.T.g hmg
  exact law_call KX G.T.g G.T.b G.T.builtins G.T.nolimit hg hobj hints (Nat.le_trans hlen hn2) hr hF hb (fun H hO hS => hsp w H a ns hlen hO hS) fun H e s' => hCX w H s₁ e s'
end L2
namespace L2
open PySem PySem.Spec PyProof.Rows
def defArgs (s : Stmt) : Arguments := match s with
  | .FunctionDef _ a _ _ _ _ _ _ _ _ => a
  | _ => { posonlyargs := [], args := [], vararg := none, kwonlyargs := [], kw_defaults := [], kwarg := none, defaults := [] }
def defBody (s : Stmt) : List Stmt := match s with
  | .FunctionDef _ _ b _ _ _ _ _ _ _ => b
  | _ => []
def defScope (s : Stmt) : Scope := match s with
  | .FunctionDef _ _ _ _ _ _ sc _ _ _ => sc
  | _ => { kind := .function, names := [], isGenerator := false, isCoroutine := false }
abbrev CX0 : CXT := fun _ _ _ _ _ _ => False
abbrev E0 : XK := fun _ _ _ => False
theorem pass0 {X : Cx} : Passes CX0 X E0 := fun _ _ _ _ _ _ _ h => h.elim
structure Fun (K : PySem.W.Frag) (x qual : Str) (st : Stmt) (f : Addr) (fd : FuncData) : Prop where
  ex : ∃ (oc : Value) (od : Option Addr) (kV doc pm : Value) (an : Option Addr) (cdv ct : Value) (osl : Array (Option Value)),
    fd = PySem.W.fnOf x qual (defArgs st) (defBody st) (defScope st) .none kV doc pm an cdv ct ∧ K.lookup f = some ⟨oc, od, .func fd, osl⟩ ∧ PySem.W.codeIn K cdv qual = true
  kp : PySem.W.keepIn K (.ref f) = true
section
variable {P : Program} {w : World} {K : PySem.W.Frag} {mg : Str → Option Value} {base : Heap}
theorem Fun.ok {x qual : Str} {st : Stmt} {f : Addr} {fd : FuncData} {N ps : List Str} {k : Nat} {sp : Sp} (F : Fun K x qual st f fd) (S : FnScope N ps (defScope st)) (len : ∀ vs H Q E, sp vs H Q E → vs.length = ps.length)
    (hbody : ∀ (cdv : Value) (A : Around) (outer : List Env) (s : Shared) (H : Hp) (vs : List V) (Q : VK) (E : XK), Room k (A.deeper (envOfC qual (defScope st) s.heap.objs.size f cdv)) → sp vs H Q E →
      ∃ t, PSs (cxOf CX0 P w K mg base N qual (defScope st) f cdv A outer s H E).nox (defBody st) t ∧ t { nx := fun _ H' => Q .non H', rt := Q } (start N vs) H) : FnOk P w K mg base CX0 (k + 1) f fd ps sp := by
  obtain ⟨oc, od, kV, doc, pm, an, cdv, ct, osl, rfl, lk, hcd⟩ := F.ex
  refine fn_of lk hcd S len fun A outer s H vs Q E hr hsp => ?_
  obtain ⟨t, h, q⟩ := hbody cdv A outer s H vs Q E hr hsp
  exact ⟨t, h.nox, q⟩
theorem Fun.binds {x qual : Str} {st : Stmt} {f : Addr} {fd : FuncData} {ps : List Str} (F : Fun K x qual st f fd)
    (h : ∀ (kV doc pm : Value) (an : Option Addr) (cdv ct : Value) (us : List Value), us.length = ps.length → bindArgs (PySem.W.fnOf x qual (defArgs st) (defBody st) (defScope st) .none kV doc pm an cdv ct) ⟨us, []⟩ = pure (ps.zip us)) : Binds K fd ps [] := by
  obtain ⟨oc, od, kV, doc, pm, an, cdv, ct, osl, rfl, lk, hcd⟩ := F.ex
  exact .all (h kV doc pm an cdv ct)
theorem fun_mk {x qual : Str} {st : Stmt} {f : Addr} {oc : Value} {od an : Option Addr} {osl : Array (Option Value)} {kV doc pm cdv ct : Value} (l : K.lookup f = some ⟨oc, od, .func (PySem.W.fnOf x qual (defArgs st) (defBody st) (defScope st) .none kV doc pm an cdv ct), osl⟩)
    (c : PySem.W.codeIn K cdv qual = true) (k : PySem.W.keepIn K (.ref f) = true) : Fun K x qual st f (PySem.W.fnOf x qual (defArgs st) (defBody st) (defScope st) .none kV doc pm an cdv ct) := ⟨⟨oc, od, kV, doc, pm, an, cdv, ct, osl, rfl, l, c⟩, k⟩
end
theorem hu_of {A : Around} {k : Nat} (hr : Room k A) : A.units + 1 < cLine := Nat.lt_of_le_of_lt (Nat.add_le_add_left (by decide : 1 ≤ 64) _) hr.units
theorem small1000 {n : Nat} (h : n ≤ 1000) : n < sizeLine := Nat.lt_of_le_of_lt h (by decide)
section
variable {X : Cx}
theorem pv (i : Nat) {x : Str} {pos : Pos} (hN : X.N[i]? = some x := by rfl) (hv : Vis X.env.scope x := by first | exact Or.inl rfl | exact Or.inr (Or.inl rfl) | exact Or.inr (Or.inr rfl)) (hd : (x == ("__debug__" : Str)) = false := by decide)
    (hcd : (x == ("__classdict__" : Str)) = false := by decide) : PE X (.Name x pos) (tVar i) := pe_var hN hv hd hcd
end
theorem iteF {A B : Prop} (h : B) : if false = true then A else B := by
  rw [if_neg Bool.false_ne_true]
  exact h
theorem iteT {A B : Prop} (h : A) : if true = true then A else B := by
  rw [if_pos rfl]
  exact h
theorem ite2 {c A B : Prop} [Decidable c] (h1 : c → A) (h2 : ¬ c → B) : if c then A else B := by
  by_cases h : c
  · rw [if_pos h]
    exact h1 h
  · rw [if_neg h]
    exact h2 h
def Same (H H' : Hp) : Prop := ∀ b o, H b = some o → H' b = some o
theorem Same.refl (H : Hp) : Same H H := fun _ _ h => h
theorem Same.trans {H H1 H2 : Hp} (a : Same H H1) (b : Same H1 H2) : Same H H2 := fun c o h => b c o (a c o h)
theorem Same.free {H H' : Hp} (e : Same H H') {l : Addr} (h : H' l = Option.none) : H l = Option.none := by
  cases q : H l with
  | none => rfl
  | some o =>
    rw [e l o q] at h
    cases h
theorem Same.seq {K : PySem.W.Frag} {H H' : Hp} {a : Addr} {xs : List V} (e : Same H H') (h : SqL K H a xs) : SqL K H' a xs := by
  rcases h with (h | ⟨o, h⟩) | h
  · exact .inl (.inl (e _ _ h))
  · exact .inl (.inr ⟨o, e _ _ h⟩)
  · exact .inr h
end L2
namespace L2
open PySem PySem.Spec PyProof.Rows
section
variable {X : Cx}
theorem call_lenD : CallR X (.builtin "len") (fun xs H Q => ∃ a kvs, xs = [V.ref a] ∧ H a = some (.dK kvs) ∧ Q (.int kvs.length) H) := by
  intro pins s σ H xs us Q I r h
  obtain ⟨a, kvs, rfl, ha, q⟩ := h
  obtain ⟨u, rfl, ru⟩ := vals1 r
  cases ru
  exact d_len I (.inl ha) fun t s' I' => ⟨.int kvs.length, H, I', ⟨t, rfl⟩, q⟩
end
section
variable {κ : Type} [DecidableEq κ]
theorem valV_not {kvs : List (κ × V)} {k : κ} (h : valV kvs k = none) : ¬ k ∈ kvs.map (·.1) := by
  intro m
  obtain ⟨p, hp, e⟩ := List.mem_map.mp m
  have q : (kvs.any fun kv => decide (kv.1 = k)) = true := List.any_eq_true.mpr ⟨p, hp, decide_eq_true e⟩
  rw [valV_any, h] at q
  exact absurd q (by simp)
theorem valV_in {kvs : List (κ × V)} {k : κ} {v : V} (h : valV kvs k = some v) : k ∈ kvs.map (·.1) := by
  have q : (kvs.any fun kv => decide (kv.1 = k)) = true := by
    rw [valV_any, h]
    all_goals rfl
  obtain ⟨p, hp, e⟩ := List.any_eq_true.mp q
  exact List.mem_map.mpr ⟨p, hp, of_decide_eq_true e⟩
theorem nd_snoc : ∀ {l : List κ} {k : κ}, l.Nodup → ¬ k ∈ l → (l ++ [k]).Nodup
  | [], k, _, _ => by simp
  | a :: r, k, h, hk => by
    obtain ⟨h1, h2⟩ := List.nodup_cons.mp h
    show (a :: (r ++ [k])).Nodup
    refine List.nodup_cons.mpr ⟨fun m => ?_, nd_snoc h2 fun m => hk (List.mem_cons.mpr (Or.inr m))⟩
    rcases List.mem_append.mp m with q | q
    · exact h1 q
    · exact hk (List.mem_cons.mpr (Or.inl (List.mem_singleton.mp q).symm))
theorem nd_putK {kvs : List (κ × V)} {k : κ} (v : V) (hn : (kvs.map (·.1)).Nodup) (h : valV kvs k = none) : ((putK kvs k v).map (·.1)).Nodup := by
  rw [putK_new v h, List.map_append]
  exact nd_snoc hn (valV_not h)
end
end L2
set_option maxHeartbeats 4000000
namespace SA
set_option maxHeartbeats 4000000
def fp (n s : Int) : Int :=
  if n % 2 = 0 then 6 * (s / 4) + 2 * (s % 4) - 1 - n / 2
  else if n = 1 then s / 4 + s % 4 - 1
  else if n = 2 * (s / 4) - 1 then 2 * (s / 4) + 2 * (s % 4) - 1
  else if n = 4 * (s / 4) - 1 + 2 * (s % 4) then 2 * (s / 4)
  else if n > 2 * (s / 4) then (4 * (s / 4) + 2 * (s % 4) - 3 - n) / 2
  else (4 * (s / 4) + 2 * (s % 4) - 1 - n) / 2
end SA
namespace SA
set_option maxHeartbeats 4000000
set_option linter.unusedVariables false
def plc : List Int → Int → Int → List Int
  | [], _, _ => []
  | x :: r, i, n => if x = n then i :: plc r (i + 1) n else plc r (i + 1) n
theorem plc_append (n : Int) : ∀ (a b : List Int) (i : Int), plc (a ++ b) i n = plc a i n ++ plc b (i + a.length) n
  | [], b, i => by simp [plc]
  | x :: r, b, i => by
    have e : i + 1 + (r.length : Int) = i + ((x :: r).length : Int) := by simp only [List.length_cons]; omega
    simp only [List.cons_append, plc, plc_append n r b (i + 1), e]
    split <;> simp
theorem plc_snoc (n x : Int) (a : List Int) : plc (a ++ [x]) 0 n = plc a 0 n ++ (if x = n then [(a.length : Int)] else []) := by
  rw [plc_append]; simp only [plc, Int.zero_add]
theorem plc_length (n : Int) : ∀ (a : List Int) (i : Int), (plc a i n).length = a.count n
  | [], _ => by simp [plc]
  | x :: r, i => by
    simp only [plc, List.count_cons]
    by_cases h : x = n
    · simp [h, plc_length n r]
    · simp [h, plc_length n r]
theorem mem_plc (n : Int) : ∀ (a : List Int) (i p : Int), p ∈ plc a i n ↔ ∃ k : Nat, a[k]? = some n ∧ p = i + k
  | [], i, p => by simp [plc]
  | x :: r, i, p => by
    have ih := mem_plc n r (i + 1) p
    have tl : (∃ k : Nat, r[k]? = some n ∧ p = i + 1 + k) ↔ ∃ k : Nat, (x :: r)[k + 1]? = some n ∧ p = i + ((k + 1 : Nat) : Int) :=
      ⟨fun ⟨k, h1, h2⟩ => ⟨k, by simpa using h1, by omega⟩, fun ⟨k, h1, h2⟩ => ⟨k, by simpa using h1, by omega⟩⟩
    have split0 : (∃ k : Nat, (x :: r)[k]? = some n ∧ p = i + k) ↔ (x = n ∧ p = i) ∨ ∃ k : Nat, (x :: r)[k + 1]? = some n ∧ p = i + ((k + 1 : Nat) : Int) := by
      constructor
      · rintro ⟨k, h1, h2⟩
        cases k with
        | zero => exact .inl ⟨by simpa using h1, by simpa using h2⟩
        | succ k => exact .inr ⟨k, h1, h2⟩
      · rintro (⟨h1, h2⟩ | ⟨k, h1, h2⟩)
        · exact ⟨0, by simpa using h1, by simpa using h2⟩
        · exact ⟨k + 1, h1, h2⟩
    rw [split0, ← tl, ← ih]
    simp only [plc]
    by_cases h : x = n
    · simp [h]
    · simp [h]
theorem plc_lt (n : Int) : ∀ (a : List Int) (i : Int), (plc a i n).Pairwise (· < ·)
  | [], _ => by simp [plc]
  | x :: r, i => by
    simp only [plc]
    split
    · refine List.Pairwise.cons (fun p hp => ?_) (plc_lt n r (i + 1))
      obtain ⟨k, _, e⟩ := (mem_plc n r (i + 1) p).mp hp
      omega
    · exact plc_lt n r (i + 1)
def RowOf (s : Nat) (row : List Int) : Prop := row.length = 2 * s ∧ ∀ n : Nat, 1 ≤ n → n ≤ s → ∃ p : Int, plc row 0 n = [p, p + n]
def IsRow (row : List Int) : Prop := ∃ s : Nat, 1 ≤ s ∧ s ≤ 400 ∧ RowOf s row
theorem count_sum (row : List Int) : ∀ s : Nat, (∀ n : Nat, 1 ≤ n → n ≤ s → row.count (n : Int) = 2) → (row.filter fun x => decide (1 ≤ x ∧ x ≤ (s : Int))).length = 2 * s
  | 0, _ => by
    rw [List.length_eq_zero_iff, List.filter_eq_nil_iff]
    intro x _ h
    simp at h
    omega
  | s + 1, h => by
    have ih := count_sum row s fun n h1 h2 => h n h1 (by omega)
    have hc := h (s + 1) (by omega) (by omega)
    have key : ∀ l : List Int, (l.filter fun x => decide (1 ≤ x ∧ x ≤ ((s + 1 : Nat) : Int))).length = (l.filter fun x => decide (1 ≤ x ∧ x ≤ (s : Int))).length + l.count ((s + 1 : Nat) : Int) := by
      intro l
      induction l with
      | nil => simp
      | cons x r ih =>
        rw [List.count_cons]
        simp only [List.filter_cons]
        by_cases e : x = ((s + 1 : Nat) : Int)
        · have h1 : decide (1 ≤ x ∧ x ≤ ((s + 1 : Nat) : Int)) = true := by simp; omega
          have h2 : decide (1 ≤ x ∧ x ≤ (s : Int)) = false := by simp; omega
          have h3 : (x == ((s + 1 : Nat) : Int)) = true := by simpa using e
          rw [h1, h2, h3]; simp only [if_true, List.length_cons, ih, Bool.false_eq_true, if_false]; omega
        · have h3 : (x == ((s + 1 : Nat) : Int)) = false := by simpa using e
          have h4 : decide (1 ≤ x ∧ x ≤ ((s + 1 : Nat) : Int)) = decide (1 ≤ x ∧ x ≤ (s : Int)) := by
            apply decide_eq_decide.mpr; omega
          rw [h4, h3]
          split
          · simp only [List.length_cons, ih]; simp; omega
          · rw [ih]; simp
    rw [key, ih, hc]; omega
theorem RowOf.count {s : Nat} {row : List Int} (h : RowOf s row) {n : Nat} (h1 : 1 ≤ n) (h2 : n ≤ s) : row.count (n : Int) = 2 := by
  obtain ⟨p, e⟩ := h.2 n h1 h2
  rw [← plc_length n row 0, e]; rfl
theorem RowOf.mem {s : Nat} {row : List Int} (h : RowOf s row) : ∀ x ∈ row, 1 ≤ x ∧ x ≤ (s : Int) := by
  have e := count_sum row s fun n h1 h2 => h.count h1 h2
  have e2 : (row.filter fun x => decide (1 ≤ x ∧ x ≤ (s : Int))).length = row.length := by rw [e, h.1]
  have e3 := List.length_filter_eq_length_iff.mp e2
  intro x hx
  simpa using e3 x hx
theorem plc_two {row : List Int} {n : Int} {p q : Nat} (hp : row[p]? = some n) (hq : row[q]? = some n) (hlt : p < q) (ho : ∀ k : Nat, row[k]? = some n → k = p ∨ k = q) : plc row 0 n = [(p : Int), (q : Int)] := by
  have hs := plc_lt n row 0
  have hm := mem_plc n row 0
  have m1 : (p : Int) ∈ plc row 0 n := (hm p).mpr ⟨p, hp, by omega⟩
  have m2 : (q : Int) ∈ plc row 0 n := (hm q).mpr ⟨q, hq, by omega⟩
  have ho' : ∀ z ∈ plc row 0 n, z = (p : Int) ∨ z = (q : Int) := fun z hz => by
    obtain ⟨k, h1, h2⟩ := (hm z).mp hz
    rcases ho k h1 with e | e <;> omega
  generalize plc row 0 n = l at *
  match l, hs, m1, m2, ho' with
  | [], _, m1, _, _ => simp at m1
  | [a], _, m1, m2, _ => simp at m1 m2; omega
  | [a, b], hs, m1, m2, _ =>
    simp at hs m1 m2
    have : (p : Int) = a ∧ (q : Int) = b := by omega
    rw [this.1, this.2]
  | a :: b :: c :: r, hs, m1, m2, ho =>
    simp at hs
    have h1 := ho a (by simp)
    have h2 := ho b (by simp)
    have h3 := ho c (by simp)
    omega
structure Good (row : List Int) (P : Nat → Prop) : Prop where
  pl : ∀ n, P n → 1 ≤ n ∧ ∃ p : Nat, row[p]? = some (n : Int) ∧ row[p + n]? = some (n : Int) ∧ ∀ k : Nat, row[k]? = some (n : Int) → k = p ∨ k = p + n
  fr : ∀ (k : Nat) x, row[k]? = some x → x = 0 ∨ ∃ n, P n ∧ x = (n : Int)
def put (row : List Int) (n p : Nat) : List Int := (row.set p n).set (p + n) n
theorem put_length (row : List Int) (n p : Nat) : (put row n p).length = row.length := by simp [put]
theorem put_get {row : List Int} {n p : Nat} (hq : p + n < row.length) (k : Nat) : (put row n p)[k]? = if k = p ∨ k = p + n then some (n : Int) else row[k]? := by
  unfold put
  by_cases h2 : k = p + n
  · subst h2
    rw [List.getElem?_set_self (by simpa using hq)]; simp
  · rw [List.getElem?_set_ne (Ne.symm h2)]
    by_cases h1 : k = p
    · subst h1
      rw [List.getElem?_set_self (by omega)]; simp
    · rw [List.getElem?_set_ne (Ne.symm h1)]; simp [h1, h2]
theorem Good.put {row : List Int} {P : Nat → Prop} (g : Good row P) {n p : Nat} (h1 : 1 ≤ n) (hn : ¬ P n) (h0 : row[p]? = some 0) (hq : row[p + n]? = some 0) : Good (put row n p) fun m => m = n ∨ P m := by
  have hl : p + n < row.length := (List.getElem?_eq_some_iff.mp hq).1
  refine ⟨fun m hm => ?_, fun k x hx => ?_⟩
  · rcases hm with rfl | hm
    · refine ⟨h1, p, by rw [put_get hl]; simp, by rw [put_get hl]; simp, fun k hk => ?_⟩
      rw [put_get hl] at hk
      split at hk
      · assumption
      · rcases g.fr k _ hk with e | ⟨m', hm', e⟩
        · omega
        · have : m = m' := by omega
          subst this; exact absurd hm' hn
    · obtain ⟨h1m, p', e1, e2, ho⟩ := g.pl m hm
      have ne : m ≠ n := fun e => hn (e ▸ hm)
      have n1 : ∀ k, row[k]? = some (m : Int) → ¬ (k = p ∨ k = p + n) := by
        intro k hk h
        rcases h with rfl | rfl
        · rw [h0] at hk; simp at hk; omega
        · rw [hq] at hk; simp at hk; omega
      refine ⟨h1m, p', by rw [put_get hl, if_neg (n1 _ e1)]; exact e1, by rw [put_get hl, if_neg (n1 _ e2)]; exact e2, fun k hk => ?_⟩
      rw [put_get hl] at hk
      split at hk
      · simp at hk; omega
      · exact ho k hk
  · rw [put_get hl] at hx
    split at hx
    · simp at hx; exact .inr ⟨n, .inl rfl, hx.symm⟩
    · rcases g.fr k x hx with e | ⟨m, hm, e⟩
      · exact .inl e
      · exact .inr ⟨m, .inr hm, e⟩
theorem Good.imp {row : List Int} {P P' : Nat → Prop} (g : Good row P) (h : ∀ n, P n ↔ P' n) : Good row P' :=
  ⟨fun n hn => g.pl n ((h n).mpr hn), fun k x hx => (g.fr k x hx).imp id fun ⟨n, hn, e⟩ => ⟨n, (h n).mp hn, e⟩⟩
theorem good_zero (s : Nat) : Good (List.replicate s 0) fun _ => False :=
  ⟨fun _ h => h.elim, fun k x hx => by rw [List.getElem?_replicate] at hx; split at hx <;> simp at hx; exact .inl hx.symm⟩
theorem Good.rowOf {row : List Int} {s : Nat} (g : Good row fun n => 1 ≤ n ∧ n ≤ s) (hl : row.length = 2 * s) : RowOf s row :=
  ⟨hl, fun n h1 h2 => by
    obtain ⟨_, p, e1, e2, ho⟩ := g.pl n ⟨h1, h2⟩
    exact ⟨p, by have := plc_two e1 e2 (by omega) ho; simpa using this⟩⟩
def Compl : Nat → List Int → List Int → Prop
  | 0, row, c => c = row
  | n + 1, row, c => ∃ p : Nat, row[p]? = some 0 ∧ row[p + (n + 1)]? = some 0 ∧ Compl n (put row (n + 1) p) c
theorem Compl.good {s : Nat} : ∀ {n : Nat} {row c : List Int}, Compl n row c → n ≤ s → Good row (fun m => n < m ∧ m ≤ s) → Good c (fun m => 1 ≤ m ∧ m ≤ s) ∧ c.length = row.length
  | 0, row, c, h, _, g => by
    have h : c = row := h
    subst h; exact ⟨g.imp fun m => by omega, rfl⟩
  | n + 1, row, c, h, hs, g => by
    obtain ⟨p, h0, hq, hc⟩ := h
    have := hc.good (s := s) (by omega) ((g.put (by omega) (by omega) h0 hq).imp fun m => by omega)
    rw [put_length] at this
    exact this
theorem Compl.rowOf {s : Nat} {c : List Int} (h : Compl s (List.replicate (2 * s) 0) c) : RowOf s c := by
  obtain ⟨g, hl⟩ := h.good (Nat.le_refl s) ((good_zero (2 * s)).imp fun m => ⟨False.elim, fun h => by have h1 := h.1; have h2 := h.2; omega⟩)
  exact g.rowOf (by simpa using hl)
def follow : Nat → List Int → List Nat → Bool
  | 0, _, [] => true
  | n + 1, row, p :: ps => row[p]? == some 0 && row[p + (n + 1)]? == some 0 && follow n (put row (n + 1) p) ps
  | _, _, _ => false
theorem compl_of_follow : ∀ (n : Nat) (row : List Int) (ps : List Nat), follow n row ps = true → ∃ c, Compl n row c
  | 0, row, [], _ => ⟨row, rfl⟩
  | 0, _, _ :: _, h => by simp [follow] at h
  | n + 1, _, [], h => by simp [follow] at h
  | n + 1, row, p :: ps, h => by
    simp only [follow, Bool.and_eq_true, beq_iff_eq] at h
    obtain ⟨c, hc⟩ := compl_of_follow n _ ps h.2
    exact ⟨c, p, h.1.1, h.1.2, hc⟩
end SA
namespace SA
set_option maxHeartbeats 4000000
set_option linter.unusedVariables false
theorem compl_small : ∀ s ∈ [1, 4, 5, 8, 9], ∃ c, Compl s (List.replicate (2 * s) 0) c := by
  intro s hs
  simp only [List.mem_cons, List.not_mem_nil, or_false] at hs
  rcases hs with rfl | rfl | rfl | rfl | rfl
  · exact compl_of_follow _ _ [0] (by decide +kernel)
  · exact compl_of_follow _ _ [0, 2, 1, 6] (by decide +kernel)
  · exact compl_of_follow _ _ [0, 2, 4, 1, 8] (by decide +kernel)
  · exact compl_of_follow _ _ [0, 2, 4, 1, 7, 12, 3, 13] (by decide +kernel)
  · exact compl_of_follow _ _ [0, 2, 1, 5, 12, 3, 13, 4, 14] (by decide +kernel)
def fpN (n s : Nat) : Nat := (fp n s).toNat
def fill (s : Nat) : Nat → List Int
  | 0 => List.replicate (2 * s) 0
  | k + 1 => put (fill s k) (k + 1) (fpN (k + 1) s)
def rowOf (s : Nat) : List Int := if s = 5 then [1, 1, 3, 4, 5, 3, 2, 4, 2, 5] else fill s s
theorem isRow_iff (row : List Int) : IsRow row ↔ (row.length : Int) = 2 * ((row.length : Int) / 2) ∧ 1 ≤ (row.length : Int) / 2 ∧ (row.length : Int) / 2 ≤ 400 ∧
    ∀ n : Int, 1 ≤ n → n ≤ (row.length : Int) / 2 → ∃ p q, plc row 0 n = [p, q] ∧ q - p = n := by
  constructor
  · rintro ⟨s, h1, h2, hl, h⟩
    have e : (row.length : Int) / 2 = s := by omega
    refine ⟨by omega, by omega, by omega, fun n a b => ?_⟩
    obtain ⟨p, hp⟩ := h n.toNat (by omega) (by omega)
    have en : ((n.toNat : Nat) : Int) = n := by omega
    rw [en] at hp
    exact ⟨p, p + n, hp, by omega⟩
  · rintro ⟨h1, h2, h3, h⟩
    refine ⟨row.length / 2, by omega, by omega, by omega, fun n a b => ?_⟩
    obtain ⟨p, q, e, d⟩ := h n (by omega) (by omega)
    exact ⟨p, by rw [e]; congr 2; omega⟩
structure Fine (s : Int) (pre : List Int) : Prop where
  bd : ∀ x ∈ pre, 1 ≤ x ∧ x ≤ s
  two : ∀ n, plc pre 0 n = [] ∨ (∃ p, plc pre 0 n = [p]) ∨ ∃ p, plc pre 0 n = [p, p + n]
theorem fine_nil (s : Int) : Fine s [] := ⟨fun _ h => by simp at h, fun n => .inl rfl⟩
theorem plc_prefix (n : Int) (a b : List Int) : ∃ r, plc (a ++ b) 0 n = plc a 0 n ++ r := ⟨_, plc_append n a b 0⟩
theorem RowOf.turn {s : Nat} {pre post : List Int} {x : Int} (h : RowOf s (pre ++ x :: post)) : (1 ≤ x ∧ x ≤ s) ∧ (plc pre 0 x = [] ∨ ∃ p, plc pre 0 x = [p] ∧ (pre.length : Int) - p = x) := by
  have hx := h.mem x (by simp)
  refine ⟨hx, ?_⟩
  obtain ⟨p, e⟩ := h.2 x.toNat (by omega) (by omega)
  have en : ((x.toNat : Nat) : Int) = x := by omega
  rw [en] at e
  have e2 : pre ++ x :: post = (pre ++ [x]) ++ post := by simp
  rw [e2] at e
  obtain ⟨r, er⟩ := plc_prefix x (pre ++ [x]) post
  rw [er, plc_snoc, if_pos rfl] at e
  match hp : plc pre 0 x, e with
  | [], _ => exact .inl rfl
  | [a], e => simp at e; exact .inr ⟨a, rfl, by omega⟩
  | a :: b :: c, e => simp at e
theorem Fine.add_new {s : Int} {pre : List Int} {x : Int} (f : Fine s pre) (h : 1 ≤ x ∧ x ≤ s) (e : plc pre 0 x = []) : Fine s (pre ++ [x]) := by
  refine ⟨fun y hy => ?_, fun n => ?_⟩
  · rcases List.mem_append.mp hy with hy | hy
    · exact f.bd y hy
    · simp at hy; rw [hy]; exact h
  · rw [plc_snoc]
    by_cases hn : x = n
    · subst hn; rw [e, if_pos rfl]; exact .inr (.inl ⟨_, rfl⟩)
    · rw [if_neg hn, List.append_nil]; exact f.two n
theorem Fine.add_two {s : Int} {pre : List Int} {x p : Int} (f : Fine s pre) (h : 1 ≤ x ∧ x ≤ s) (e : plc pre 0 x = [p]) (d : (pre.length : Int) - p = x) : Fine s (pre ++ [x]) := by
  refine ⟨fun y hy => ?_, fun n => ?_⟩
  · rcases List.mem_append.mp hy with hy | hy
    · exact f.bd y hy
    · simp at hy; rw [hy]; exact h
  · rw [plc_snoc]
    by_cases hn : x = n
    · subst hn; rw [e, if_pos rfl]; exact .inr (.inr ⟨p, by simp; omega⟩)
    · rw [if_neg hn, List.append_nil]; exact f.two n
theorem nodup_all : ∀ (s : Nat) (l : List Int), l.Nodup → (∀ x ∈ l, 1 ≤ x ∧ x ≤ (s : Int)) → l.length ≤ s ∧ (l.length = s → ∀ n : Int, 1 ≤ n → n ≤ s → n ∈ l)
  | 0, l, _, h => by
    have : l = [] := by
      cases l with
      | nil => rfl
      | cons a r => have := h a (by simp); omega
    subst this
    exact ⟨by simp, fun _ n a b => by omega⟩
  | s + 1, l, nd, h => by
    let l' := l.erase ((s + 1 : Nat) : Int)
    have nd' : l'.Nodup := nd.erase _
    have h' : ∀ x ∈ l', 1 ≤ x ∧ x ≤ (s : Int) := fun x hx => by
      have h1 := h x (List.mem_of_mem_erase hx)
      have h2 : x ≠ ((s + 1 : Nat) : Int) := fun e => by
        have := (List.Nodup.mem_erase_iff nd).mp hx
        exact this.1 e
      omega
    obtain ⟨i1, i2⟩ := nodup_all s l' nd' h'
    by_cases hm : ((s + 1 : Nat) : Int) ∈ l
    · have el : l'.length = l.length - 1 := List.length_erase_of_mem hm
      have pos : 0 < l.length := List.length_pos_of_mem hm
      refine ⟨by omega, fun e n a b => ?_⟩
      by_cases hn : n = ((s + 1 : Nat) : Int)
      · rw [hn]; exact hm
      · exact List.mem_of_mem_erase (i2 (by omega) n a (by omega))
    · have el : l' = l := List.erase_of_not_mem hm
      rw [el] at i1
      exact ⟨by omega, fun e => by omega⟩
theorem fine_end {s : Nat} {row both : List Int} (f : Fine s row) (hl : row.length = 2 * s) (nd : both.Nodup) (hb : ∀ n, n ∈ both ↔ ∃ p, plc row 0 n = [p, p + n]) : both.length = s ↔ RowOf s row := by
  have bd : ∀ x ∈ both, 1 ≤ x ∧ x ≤ (s : Int) := fun x hx => by
    obtain ⟨p, e⟩ := (hb x).mp hx
    have : p ∈ plc row 0 x := by rw [e]; simp
    obtain ⟨k, hk, _⟩ := (mem_plc x row 0 p).mp this
    exact f.bd x (List.mem_of_getElem? hk)
  obtain ⟨i1, i2⟩ := nodup_all s both nd bd
  constructor
  · intro e
    exact ⟨hl, fun n a b => (hb n).mp (i2 e n (by omega) (by omega))⟩
  · intro h
    have key : ∀ k : Nat, k ≤ s → k ≤ (both.filter fun x => decide (x ≤ (k : Int))).length := by
      intro k
      induction k with
      | zero => intro _; omega
      | succ k ih =>
        intro hk
        have := ih (by omega)
        have hm : ((k + 1 : Nat) : Int) ∈ both := (hb _).mpr (h.2 (k + 1) (by omega) hk)
        have h2 : ∀ l : List Int, ((k + 1 : Nat) : Int) ∈ l → (l.filter fun x => decide (x ≤ (k : Int))).length + 1 ≤ (l.filter fun x => decide (x ≤ ((k + 1 : Nat) : Int))).length := by
          intro l
          have mono : ∀ l : List Int, (l.filter fun x => decide (x ≤ (k : Int))).length ≤ (l.filter fun x => decide (x ≤ ((k + 1 : Nat) : Int))).length := by
            intro l
            induction l with
            | nil => simp
            | cons a r ih =>
              simp only [List.filter_cons]
              split
              · rename_i q; simp at q
                have q2 : decide (a ≤ ((k + 1 : Nat) : Int)) = true := by simp; omega
                rw [q2]; simp only [if_true, List.length_cons]; omega
              · split <;> (try simp only [List.length_cons]) <;> omega
          induction l with
          | nil => intro h; simp at h
          | cons a r ih =>
            intro hm
            rcases List.mem_cons.mp hm with e | hm
            · have q1 : decide (a ≤ (k : Int)) = false := by rw [← e]; simp; omega
              have q2 : decide (a ≤ ((k + 1 : Nat) : Int)) = true := by rw [← e]; simp
              simp only [List.filter_cons, q1, q2, if_true, Bool.false_eq_true, if_false, List.length_cons]
              have := mono r; omega
            · have := ih hm
              simp only [List.filter_cons]
              split
              · rename_i q; simp at q
                have q2 : decide (a ≤ ((k + 1 : Nat) : Int)) = true := by simp; omega
                rw [q2]; simp only [if_true, List.length_cons]; omega
              · split <;> (try simp only [List.length_cons]) <;> omega
        have := h2 both hm; omega
    have := key s (Nat.le_refl s)
    have := List.length_filter_le (fun x => decide (x ≤ (s : Int))) both
    omega
end SA
namespace SA
set_option linter.unusedVariables false
end SA
namespace L2
open PySem PySem.Spec PyProof.Rows
theorem codeAny_compLoop_go {prog : Program} {w : World} {A : Around} {R : Result → Shared → Prop} {s : Shared} {elt target iter : Expr} {ifs : List Expr} {scope : Scope} {pos : Pos} {it acc : Value} {env : Env} (I : Nat → Shared → Prop)
    (turn : ∀ n s, I n s → wpAny (model prog w) A (pyNext it) (fun r s₁ => match r with
      | none => R (.ok .next) s₁
      | some v => wpAny (model prog w) A (letOwnedTupleGo target it v) (fun _ s₁ => wpAny (model prog w) A (assign target env v) (fun _ s₂ =>
          wpAny (model prog w) A (forIn ifs true fun c r => if r = true then do let ok ← isTrue c env (eval c env); pure (ForInStep.yield ok) else pure (ForInStep.yield r)) (fun ok s₃ =>
            if ok = true then wpAny (model prog w) A (eval elt env) (fun x s₄ =>
              wpAny (model prog w) A (call (.builtin "list.append") [acc, x]) (fun _ s₅ => ∃ m, m < n ∧ I m s₅) (fun _ _ => False) s₄) (fun _ _ => False) s₃
            else ∃ m, m < n ∧ I m s₃) (fun _ _ => False) s₂) (fun _ _ => False) s₁) (fun _ _ => False) s₁) (fun _ _ => False) s)
    (n : Nat) (h : I n s) :
    codeAny (model prog w) A (.compLoop (.ListComp elt [⟨target, iter, ifs, 0⟩] scope pos) 0 it acc env) R s := by
  refine codeAny_loop rfl I (fun n s hI => ?_) n h
  show wpAny _ A ((compTurn (.ListComp elt [⟨target, iter, ifs, 0⟩] scope pos) 0 it acc env).onRaise (fun x => do noteFrame x env; theTreesLotGoes x)) _ _ s
  refine wpAny_noted ?_
  rw [compTurn_list]
  refine wpAny_bind (wpAny_standAt (wpAny_bind (wpAny_mono (turn n s hI) (fun r s₁ h₁ => ?_) fun _ _ h' => h'.elim)))
  cases r with
  | none => exact wpAny_pure h₁
  | some v =>
    refine wpAny_bind (wpAny_mono h₁ (fun _ s₁ h₁ => ?_) fun _ _ h' => h'.elim)
    refine wpAny_bind (wpAny_mono h₁ (fun _ s₂ h₂ => wpAny_bind (wpAny_mono h₂ (fun ok s₃ h₃ => ?_) fun _ _ h' => h'.elim)) fun _ _ h' => h'.elim)
    cases ok with
    | false => exact wpAny_pure ⟨rfl, h₃⟩
    | true =>
      exact wpAny_bind (wpAny_bind (wpAny_mono h₃ (fun x s₄ h₄ => wpAny_bind (wpAny_mono h₄ (fun _ s₅ h₅ => wpAny_pure (wpAny_pure ⟨rfl, h₅⟩)) fun _ _ h' => h'.elim)) fun _ _ h' => h'.elim))
def clOf (env : Env) : List (Str × NameKind) → List (Str × Addr) → List (Str × Addr)
  | [], cs => cs
  | (n, k) :: r, cs => if k == .free then clOf env r ((n, (env.cells.lookup n).getD 0) :: cs) else clOf env r cs
theorem closure_eq {scope : Scope} {env : Env} (h : ∀ y ∈ scope.names, y.2 = .free → ∃ c, env.cells.lookup y.1 = some c) : closureFor scope env = pure (clOf env scope.names []) := by
  have key : ∀ (names : List (Str × NameKind)) (cs : List (Str × Addr)), (∀ y ∈ names, y.2 = .free → ∃ c, env.cells.lookup y.1 = some c) →
      (forIn names cs fun (x : Str × NameKind) (r : List (Str × Addr)) => (if (x.2 == NameKind.free) = true then (do let c ← cellOf env x.1; pure (ForInStep.yield ((x.1, c) :: r))) else pure (ForInStep.yield r) : Sem (ForInStep (List (Str × Addr))))) = (pure (clOf env names cs) : Sem _) := by
    intro names
    induction names with
    | nil => intro cs _; rfl
    | cons y r ih =>
      intro cs hy
      obtain ⟨n, k⟩ := y
      rw [List.forIn_cons]
      have hr : ∀ y ∈ r, y.2 = .free → ∃ c, env.cells.lookup y.1 = some c := fun y hm => hy y (List.mem_cons_of_mem _ hm)
      cases e : (k == NameKind.free) with
      | false =>
        simp only [e, Bool.false_eq_true, if_false, pure_bind, clOf]
        exact ih cs hr
      | true =>
        obtain ⟨c, hc⟩ := hy (n, k) List.mem_cons_self (by simpa using e)
        have hc : env.cells.lookup n = some c := hc
        have ec : cellOf env n = pure c := by unfold cellOf; rw [hc]
        simp only [e, if_true, ec, pure_bind, clOf, hc, Option.getD_some]
        exact ih _ hr
  have := key scope.names [] h
  unfold closureFor
  simp only [bind_pure]
  refine Eq.trans ?_ this
  rfl
theorem clOf_sub {env : Env} : ∀ {names : List (Str × NameKind)} {cs : List (Str × Addr)}, (∀ y ∈ names, y.2 = .free → ∃ c, env.cells.lookup y.1 = some c) → (∀ x c, cs.lookup x = some c → env.cells.lookup x = some c) →
    ∀ x c, (clOf env names cs).lookup x = some c → env.cells.lookup x = some c
  | [], cs, _, hc => hc
  | (n, k) :: r, cs, hy, hc => by
    have hr : ∀ y ∈ r, y.2 = .free → ∃ c, env.cells.lookup y.1 = some c := fun y hm => hy y (List.mem_cons_of_mem _ hm)
    unfold clOf
    cases e : (k == NameKind.free) with
    | false => simp only [Bool.false_eq_true, if_false]; exact clOf_sub hr hc
    | true =>
      simp only [if_true]
      refine clOf_sub hr fun x c h => ?_
      obtain ⟨c', h'⟩ := hy (n, k) List.mem_cons_self (by simpa using e)
      have h' : env.cells.lookup n = some c' := h'
      rw [List.lookup_cons] at h
      cases hx : x == n with
      | true =>
        rw [hx] at h
        have hxn : x = n := by simpa using hx
        subst hxn
        simp only [h', Option.getD_some] at h
        rw [h', ← h]
      | false => rw [hx] at h; exact hc x c h
theorem clOf_has {env : Env} : ∀ {names : List (Str × NameKind)} {cs : List (Str × Addr)} {x : Str}, ((x, NameKind.free) ∈ names ∨ ∃ c, cs.lookup x = some c) → ∃ c, (clOf env names cs).lookup x = some c
  | [], cs, x, h => by
    rcases h with h | h
    · simp at h
    · exact h
  | (n, k) :: r, cs, x, h => by
    unfold clOf
    cases e : (k == NameKind.free) with
    | false =>
      simp only [Bool.false_eq_true, if_false]
      refine clOf_has ?_
      rcases h with h | h
      · rcases List.mem_cons.mp h with h | h
        · cases h; simp at e
        · exact .inl h
      · exact .inr h
    | true =>
      simp only [if_true]
      refine clOf_has ?_
      have two : ∀ cs : List (Str × Addr), (x = n ∨ ∃ c, cs.lookup x = some c) → ∃ c, ((n, (env.cells.lookup n).getD 0) :: cs).lookup x = some c := by
        intro cs hh
        rw [List.lookup_cons]
        cases hx : x == n with
        | true => exact ⟨_, rfl⟩
        | false =>
          rcases hh with hh | hh
          · subst hh; simp at hx
          · exact hh
      rcases h with h | h
      · rcases List.mem_cons.mp h with h | h
        · cases h; exact .inr (two cs (.inl rfl))
        · exact .inl h
      · exact .inr (two cs (.inr h))
abbrev compN (T : List Str) (F : List (Str × Nat)) : List Str := T ++ F.map (·.1)
abbrev compσ (T : List Str) (F : List (Str × Nat)) (σ : St) : St := T.map (fun _ => none) ++ F.map fun p => (σ[p.2]?).join
abbrev Cx.comp (X : Cx) (scope : Scope) (C : Addr) (N : List Str) (s : Shared) (H : Hp) (fp : List Addr) : Cx :=
  { X with N := N, s₀ := s, H₀ := H, env := compEnvC scope (clOf X.env scope.names []) C X.env, outer := X.stack, ex := fp, fn := fun _ => false, pn := [], xe := fun _ _ => False }
def FreesOk (X : Cx) (scope : Scope) : List (Str × Nat) → Prop
  | [] => True
  | p :: r => (X.N[p.2]? = some p.1 ∧ X.env.kindOf p.1 = some .cell ∧ (p.1, NameKind.free) ∈ scope.names ∧ (relabel scope X.env).names.lookup p.1 = some .cell) ∧ FreesOk X scope r
theorem FreesOk.mem {X : Cx} {scope : Scope} : ∀ {F : List (Str × Nat)}, FreesOk X scope F → ∀ p ∈ F, X.N[p.2]? = some p.1 ∧ X.env.kindOf p.1 = some .cell ∧ (p.1, NameKind.free) ∈ scope.names ∧ (relabel scope X.env).names.lookup p.1 = some .cell
  | [], _, p, h => by simp at h
  | q :: r, hF, p, h => by
    rcases List.mem_cons.mp h with e | h
    · rw [e]; exact hF.1
    · exact FreesOk.mem hF.2 p h
structure CompOk (X : Cx) (scope : Scope) (T : List Str) (F : List (Str × Nat)) : Prop where
  kind : scope.kind = .function
  nocell : ∀ y ∈ scope.names, y.2 ≠ .cell
  names : ∀ y ∈ scope.names, y.2 = .local → scope.names.lookup y.1 = some .local
  free : (scope.names.all fun y => !(y.2 == NameKind.free) || X.env.kindOf y.1 == some .cell) = true
  fr : FreesOk X scope F
theorem CompOk.cell {X : Cx} {scope : Scope} {T : List Str} {F : List (Str × Nat)} (S : CompOk X scope T F) {pins : List (Addr × Obj)} {σ : St} {H : Hp} {s : Shared} (I : Inv X pins σ H s) :
    ∀ y ∈ scope.names, y.2 = .free → ∃ c, X.env.cells.lookup y.1 = some c := fun y hy e => by
  have h := List.all_eq_true.mp S.free y hy
  rw [e] at h
  have h2 : X.env.kindOf y.1 = some .cell := by simpa using h
  exact I.ok.has y.1 (.inl h2)
def PIfs (X : Cx) (ifs : List Expr) (t : TT) : Prop :=
  ∀ (pins : List (Addr × Obj)) (s : Shared) (σ : St) (H : Hp) (Q : Bool → Hp → Prop), Inv X pins σ H s → t σ H Q →
    wpAny (model X.prog X.w) X.A (forIn ifs true fun c r => if r = true then do let ok ← isTrue c X.env (eval c X.env); pure (ForInStep.yield ok) else pure (ForInStep.yield r)) (TP X pins σ Q) X.xe s
def tYes : TT := fun _ H Q => Q true H
theorem pifs_nil {X : Cx} : PIfs X [] tYes := fun _ _ _ H _ I h => wpAny_tests_nil ⟨H, I, h⟩
theorem pifs_one {X : Cx} {c : Expr} {t : TT} (h : PT X c t) : PIfs X [c] t := fun pins s σ H Q I q => wpAny_tests_one (h pins s σ H Q I q)
def tCompB (l : Addr) (J : It) (g : TG) (tt : TT) (te : TE) (σ₀ : St) (H1 : Hp) (Q : Hp → Prop) : Prop :=
  ∃ W : Nat → Nat → St → List V → Hp → Prop, (∃ m, W 0 m σ₀ [] (upd H1 l (.lst []))) ∧ ∀ i m σ' ys H, W i m σ' ys H →
    ((J.stop i H ∧ Q H) ∨ (J.go i H ∧ ∃ N : St → List V → Hp → Prop, (∀ σ2 ys2 H2, N σ2 ys2 H2 → ∃ m', m' < m ∧ W (i + 1) m' σ2 ys2 H2) ∧ ∀ x H', J.yld i H x H' → g x σ' H' fun σ2 H2 => tt σ2 H2 fun b H3 =>
      if b = true then te σ2 H3 fun v H4 => H4 l = some (.lst ys) ∧ ys.length < sizeLine ∧ N σ2 (ys ++ [v]) (upd H4 l (.lst (ys ++ [v])))
      else N σ2 ys H3))
def tComp (T : List Str) (F : List (Str × Nat)) (wi : TI) (g : TG) (tt : TT) (te : TE) : TE := fun σ H Q =>
  wi σ H fun J H1 => ∀ l, H1 l = none → tCompB l J g tt te (compσ T F σ) H1 fun H' => Q (.ref l) H'
theorem lookup_relabel_inv {env : Env} : ∀ {names : List (Str × NameKind)} {x : Str} {k : NameKind},
    (names.map fun (n, k) => if (k == NameKind.free && env.scope.kind == .function && env.kindOf n == some .cell) then (n, NameKind.cell) else (n, k)).lookup x = some k →
      ∃ k', (x, k') ∈ names ∧ (k' = k ∨ k' = .free)
  | [], _, _, h => by simp at h
  | (n, k0) :: r, x, k, h => by
    rw [List.map_cons, List.lookup_cons] at h
    by_cases hc : (k0 == NameKind.free && env.scope.kind == .function && env.kindOf n == some .cell) = true
    · rw [if_pos hc] at h
      dsimp only at h
      have hf : k0 = .free := by
        simp only [Bool.and_eq_true] at hc
        simpa using hc.1.1
      cases hx : x == n with
      | true =>
        have hxn : x = n := by simpa using hx
        exact ⟨k0, by rw [hxn]; exact List.mem_cons_self, .inr hf⟩
      | false =>
        rw [hx] at h
        obtain ⟨k', hm, e⟩ := lookup_relabel_inv h
        exact ⟨k', List.mem_cons_of_mem _ hm, e⟩
    · rw [if_neg hc] at h
      dsimp only at h
      cases hx : x == n with
      | true =>
        rw [hx] at h
        have hxn : x = n := by simpa using hx
        have hk : k0 = k := by simpa using h
        exact ⟨k0, by rw [hxn]; exact List.mem_cons_self, .inl hk⟩
      | false =>
        rw [hx] at h
        obtain ⟨k', hm, e⟩ := lookup_relabel_inv h
        exact ⟨k', List.mem_cons_of_mem _ hm, e⟩
theorem kind_free {X : Cx} {scope : Scope} {T : List Str} {F : List (Str × Nat)} (S : CompOk X scope T F) {x : Str} (h : (relabel scope X.env).names.lookup x = some .cell ∨ (relabel scope X.env).names.lookup x = some .free) : (x, NameKind.free) ∈ scope.names := by
  rcases h with h | h
  · obtain ⟨k', hm, e | e⟩ := lookup_relabel_inv h
    · subst e; exact absurd rfl (S.nocell _ hm)
    · subst e; exact hm
  · obtain ⟨k', hm, e | e⟩ := lookup_relabel_inv h
    · subst e; exact hm
    · subst e; exact hm
section
variable {X : Cx} {elt tg iter : Expr} {ifs : List Expr} {scope : Scope} {pos : Pos} {T : List Str} {F : List (Str × Nat)} {wi : TI} {g : TG} {tt : TT} {te : TE}
theorem comp_inv {pins : List (Addr × Obj)} {σ : St} {H2 : Hp} {s2 : Shared} {h1 : Heap} {tk : Nat} {fp : List Addr} {D C : Addr} {m : Str → Option Value} (S : CompOk X scope T F) (hc : X.calm = true) (I2 : Inv X pins σ H2 s2)
    (f2 : ∀ b ∈ fp, FpOk X pins H2 b) (ho : ∀ b ∈ fp, ∃ o, s2.heap.get? b = some o) (old : ∀ b o, s2.heap.get? b = some o → h1.get? b = some o) (hD : s2.heap.objs.size ≤ D) (hC : s2.heap.objs.size ≤ C) (hDC : D ≠ C)
    (hl : ∃ n, h1.get? D = some { cls := .type "list", data := .seq #[] n }) (hns : h1.Ns C m) :
    Inv (X.comp scope C (compN T F) s2 H2 fp) [] (compσ T F σ) (upd H2 D (.lst [])) { s2 with heap := h1, toks := tk } := by
  have ce := S.cell I2
  have sub : ∀ x c, (clOf X.env scope.names []).lookup x = some c → X.env.cells.lookup x = some c := clOf_sub ce fun x c h => by simp at h
  have clt : ∀ x c, X.env.cells.lookup x = some c → c < s2.heap.objs.size := fun x c e => by obtain ⟨v, z⟩ := I2.cell x c e; exact z.lt
  have fresh : ∀ a, s2.heap.objs.size ≤ a → H2 a = none := fun a h => I2.hok.fresh h
  have flt : ∀ b ∈ fp, b < s2.heap.objs.size := fun b hb => by obtain ⟨o, e⟩ := ho b hb; exact Heap.lt_size e
  obtain ⟨nn, hlD⟩ := hl
  refine ⟨⟨I2.ok.mod, S.kind, I2.ok.glob, I2.ok.blt, hC, fun x y c e1 e2 => I2.ok.inj x y c (sub x c e1) (sub y c e2), fun x h => clOf_has (.inl (kind_free S h)), fun x c h => absurd h (by simp), I2.ok.hd, I2.ok.frames, .inl rfl,
      fun b hb => ⟨Nat.ne_of_lt (Nat.lt_of_lt_of_le (flt b hb) hC), fun x c e => (f2 b hb).2.2.2.2.1 x c (sub x c e)⟩, I2.bs, Nat.le_trans I2.ok.bsz I2.sz, fun b o e hb => ?_, fun b hb hf => ?_, I2.stack, I2.stkFree⟩,
    rfl, I2.bare, Un.laid old hD (fresh D hD), ⟨m, hns, fun i x v e1 e2 e3 => ?_⟩, fun x c e => ?_, ?_, fun x c e => ?_, fun p hp => absurd (show p ∈ ([] : List (Addr × Obj)) from hp) (by simp), I2.hok.laid old hD ⟨Nat.zero_le _, [], nn, .nil, hlD⟩, ?_⟩
  · rcases (f2 b hb).2.2.2.1 with z | z
    · exact I2.ok.noex b o e z
    · exact absurd (Nat.lt_of_lt_of_le (Heap.lt_size e) (Nat.le_trans I2.ok.bsz z)) (Nat.lt_irrefl _)
  · rcases List.mem_cons.mp (I2.stkSub b hf) with z | z
    · exact (f2 b hb).2.1 z
    · exact (f2 b hb).2.2.1 z
  · have e2 : (compσ T F σ)[i]? = some (some v) := e2
    have e1 : (compN T F)[i]? = some x := e1
    by_cases hi : i < T.length
    · rw [List.getElem?_append_left (by simpa using hi), List.getElem?_map, List.getElem?_eq_getElem hi] at e2
      simp at e2
    · rw [List.getElem?_append_right (by simpa using hi), List.length_map, List.getElem?_map] at e2
      rw [List.getElem?_append_right (by omega), List.getElem?_map] at e1
      cases q : F[i - T.length]? with
      | none => rw [q] at e1; simp at e1
      | some p =>
        rw [q] at e1 e2
        simp only [Option.map_some, Option.some.injEq] at e1 e2
        obtain ⟨k1, k2, k3, k4⟩ := FreesOk.mem S.fr p (List.mem_of_getElem? q)
        subst e1
        have e4 : σ[p.2]? = some (some v) := by
          cases z : σ[p.2]? with
          | none => rw [z] at e2; simp at e2
          | some w => rw [z] at e2; simp at e2; rw [e2]
        obtain ⟨m0, hn0, hl0⟩ := I2.loc
        obtain ⟨u, r, l⟩ := hl0 p.2 p.1 v k1 e4 (.inr (.inl k2))
        refine ⟨u, r, .inr ⟨.inl k4, ?_⟩⟩
        rcases l with ⟨l1, _⟩ | ⟨_, c, ec, z⟩
        · rw [k2] at l1; cases l1
        · obtain ⟨c', ec'⟩ := clOf_has (env := X.env) (cs := []) (.inl k3)
          have := sub _ _ ec'
          rw [ec] at this
          cases this
          exact ⟨c, ec', z.keeps old⟩
  · obtain ⟨v, z⟩ := I2.cell x c (sub x c e)
    exact ⟨v, z.keeps old⟩
  · show upd H2 D (.lst []) C = none
    rw [upd_ne (Ne.symm hDC)]
    exact fresh C hC
  · have e := sub x c e
    rw [upd_ne (Nat.ne_of_lt (Nat.lt_of_lt_of_le (clt x c e) hD))]
    exact I2.freeC x c e
  · show (compσ T F σ).length = (compN T F).length
    simp
theorem comp_out {pins : List (Addr × Obj)} {σ σ' : St} {H2 H' : Hp} {s2 s' : Shared} {h' : Heap} {fp : List Addr} {C : Addr} {N : List Str} {pl : List (Addr × Obj)} (I2 : Inv X pins σ H2 s2) (f2 : ∀ b ∈ fp, FpOk X pins H2 b) (hC : s2.heap.objs.size ≤ C)
    (J : Inv (X.comp scope C N s2 H2 fp) pl σ' H' s') (hs : Heap.SameBut C s'.heap h') : Inv X pins σ H' { s' with heap := h' } := by
  have ne : ∀ b o, s2.heap.get? b = some o → b ≠ C := fun b o e => Nat.ne_of_lt (Nat.lt_of_lt_of_le (Heap.lt_size e) hC)
  have B := J.base
  refine I2.call' (ch := fp) J.os ⟨fun b o e n hb hx => (hs.2 b (ne b o e)).trans (B.keep b o e n hb hx), fun b o e n hb hx => ?_, B.free, fun b o e hx => ?_, B.tups, B.frzs, B.tbls⟩ (fun b ob e => ?_) J.bare fun b hb => ?_
  · obtain ⟨sl, q⟩ := B.slot b o e n hb hx
    exact ⟨sl, (hs.2 b (ne b o e)).trans q⟩
  · obtain ⟨o', q⟩ := B.there b o e hx
    exact ⟨o', (hs.2 b (ne b o e)).trans q⟩
  · have hfree : H' C = none := J.free
    refine (J.hok b ob e).stay (fun c w' hc q => (hs.2 c ?_).trans q) (fun _ q => q) fun _ _ q => q
    rintro rfl
    rcases hc with rfl | hc
    · rw [hfree] at e; cases e
    · rw [hfree] at hc; cases hc
  · obtain ⟨_, z1, _, z3, z4, z5⟩ := f2 b hb
    exact ⟨z3, z1, z4, z5⟩
theorem comp_loop {pins : List (Addr × Obj)} {H2 : Hp} {s2 s3 : Shared} {it D C : Addr} {fp : List Addr} {tn : Nat → Heap → Prop} {J : It} {Qn : Hp → Prop} {RR : Result → Shared → Prop} {σ0 : St}
    (hc : X.calm = true) (hb : ∀ C s H fp, PG (X.comp scope C (compN T F) s H fp) tg g ∧ PIfs (X.comp scope C (compN T F) s H fp) ifs tt ∧ PE (X.comp scope C (compN T F) s H fp) elt te)
    (Tn : Turn X.prog X.w X.K tg J fp it tn) (st0 : tn 0 s3.heap)
    (f2 : ∀ b ∈ fp, FpOk X pins H2 b) (flt : ∀ b ∈ fp, b < s2.heap.objs.size) (hC : s2.heap.objs.size ≤ C)
    (I3 : Inv (X.comp scope C (compN T F) s2 H2 fp) [] σ0 (upd H2 D (.lst [])) s3) (hDf : ∀ b ∈ fp, b ≠ D)
    (hq : tCompB D J g tt te σ0 H2 Qn)
    (hR : ∀ σ' H' s', Inv (X.comp scope C (compN T F) s2 H2 fp) [] σ' H' s' → Qn H' → RR (.ok .next) s') :
    codeAny (model X.prog X.w) X.A (.compLoop (.ListComp elt [⟨tg, iter, ifs, 0⟩] scope pos) 0 (.ref it) (.ref D) (compEnvC scope (clOf X.env scope.names []) C X.env)) RR s3 := by
  obtain ⟨W, ⟨m0, w0⟩, turn⟩ := hq
  have sub : ∀ x c, (clOf X.env scope.names []).lookup x = some c → ∀ b ∈ fp, c ≠ b := fun x c e b hbm => (I3.ok.exf b hbm).2 x c e
  have stat : ∀ {H' : Hp}, (∀ b ∈ fp, H' b = none) → ∀ b ∈ fp, FpOk (X.comp scope C (compN T F) s2 H2 fp) [] H' b := fun hn b hbm =>
    ⟨hn b hbm, Nat.ne_of_lt (Nat.lt_of_lt_of_le (flt b hbm) hC), I3.ok.exfs b hbm, .inl hbm, fun x c e => sub x c e b hbm, fun p hp => absurd (show p ∈ ([] : List (Addr × Obj)) from hp) (by simp)⟩
  obtain ⟨hg, hi, he⟩ := hb C s2 H2 fp
  refine codeAny_compLoop_go (fun n s' => ∃ i σ' ys H', Inv (X.comp scope C (compN T F) s2 H2 fp) [] σ' H' s' ∧ tn i s'.heap ∧ (∀ b ∈ fp, H' b = none) ∧ W i n σ' ys H') ?_ m0
    ⟨0, σ0, [], _, I3, st0, fun b hbm => by rw [upd_ne (hDf b hbm)]; exact (f2 b hbm).1, w0⟩
  rintro n s4 ⟨i, σ4, ys, H4, I4, st4, fr4, w4⟩
  rcases turn i n σ4 ys H4 w4 with ⟨stop, qn⟩ | ⟨go, N, hN, step⟩
  · refine thn (Tn.done (X.comp scope C (compN T F) s2 H2 fp) rfl rfl rfl hc i [] s4 σ4 H4 _ I4 (stat fr4) st4 stop) fun r s5 ⟨hr, I5⟩ => ?_
    subst hr
    exact hR σ4 H4 s5 I5 qn
  · refine thn (Tn.item (X.comp scope C (compN T F) s2 H2 fp) rfl rfl rfl hc i [] s4 σ4 H4 _ I4 (stat fr4) st4 go) fun r s5 ⟨u, hr, h5⟩ => ?_
    subst hr
    refine thn h5 fun _ s6 ⟨x, H6, I6, r6, y6, st6, fr6⟩ => ?_
    have I6' := I6.pinned (stat fr6) (Tn.obj _ _ st6)
    refine thn (hg _ s6 σ4 H6 x u _ I6' r6 (step x H6 y6)) fun _ s7 ⟨σ7, H7, I7, q7⟩ => ?_
    refine thn (hi _ s7 σ7 H7 _ I7 q7) fun ok s8 ⟨H8, I8, q8⟩ => ?_
    have again : ∀ {σ9 : St} {H9 : Hp} {s9 : Shared} {ys9 : List V}, Inv (X.comp scope C (compN T F) s2 H2 fp) ([] ++ pinsAt fp s6.heap) σ9 H9 s9 → N σ9 ys9 H9 →
        ∃ m, m < n ∧ ∃ i σ' ys H', Inv (X.comp scope C (compN T F) s2 H2 fp) [] σ' H' s9 ∧ tn i s9.heap ∧ (∀ b ∈ fp, H' b = none) ∧ W i m σ' ys H' := fun {σ9 H9 s9 ys9} I9 hw => by
      obtain ⟨m', hm, w9⟩ := hN _ _ _ hw
      refine ⟨m', hm, i + 1, σ9, ys9, H9, I9.unpinned, Tn.keep _ _ _ st6 fun b hbm o e => (I9.pin (b, o) (List.mem_append_right _ (List.mem_append_right _ (mem_pinsAt hbm e)))).1, fun b hbm => ?_, w9⟩
      obtain ⟨o, e, d⟩ := Tn.obj _ _ st6 b hbm
      exact (I9.pin (b, o) (List.mem_append_right _ (List.mem_append_right _ (mem_pinsAt hbm e)))).2.1
    cases ok with
    | false =>
      rw [if_neg Bool.false_ne_true]
      rw [if_neg Bool.false_ne_true] at q8
      exact again I8 q8
    | true =>
      rw [if_pos rfl]
      rw [if_pos rfl] at q8
      refine thn (he _ s8 σ7 H8 _ I8 q8) fun u9 s9 ⟨v9, H9, I9, r9, hl9, hz9, w9⟩ => ?_
      refine thn (mt_append _ s9 σ7 H9 (.ref D) [v9] (.ref D) [u9] (fun _ H10 => H10 = upd H9 D (.lst (ys ++ [v9]))) I9 rfl (.cons r9 .nil) ⟨D, ys, v9, rfl, rfl, hl9, hz9, rfl⟩) fun _ s10 ⟨_, H10, I10, _, e10⟩ => ?_
      subst e10
      exact again I10 w9
theorem pe_comp (hc : X.calm = true) (S : CompOk X scope T F) (hi : PI X tg iter wi)
    (hb : ∀ C s H fp, PG (X.comp scope C (compN T F) s H fp) tg g ∧ PIfs (X.comp scope C (compN T F) s H fp) ifs tt ∧ PE (X.comp scope C (compN T F) s H fp) elt te)
    (hs : ∀ x, foldedSetIterable iter X.env x = pure x := by intro _; rfl) : PE X (.ListComp elt [⟨tg, iter, ifs, 0⟩] scope pos) (tComp T F wi g tt te) := by
  intro pins s σ H Q I h
  rw [eval_ListComp]
  refine wpAny_comprehension_free (use := none) rfl hs (closure_eq (S.cell I)) S.kind S.names (thn (hi pins s σ H _ I h) fun v s1 h1 => thn h1 fun itv s2 h2 => ?_)
  obtain ⟨it, fp, tn, J, H2, e, I2, Tn, st2, f2, hq⟩ := h2
  subst e
  have ho : ∀ b ∈ fp, ∃ o, s2.heap.get? b = some o := fun b hbm => by obtain ⟨o, e, _⟩ := Tn.obj _ _ st2 b hbm; exact ⟨o, e⟩
  refine wpAny_newObj_type (wpAny_newFunctionEnv S.nocell (by intro y hy; simp at hy) (fun h₁ hns₁ hsb₁ => ?_) S.kind)
  dsimp only at hns₁ hsb₁ ⊢
  generalize hH2 : s2.heap.push { cls := .type "list", dict := none, data := .seq ([] : List Value).toArray } = G2 at hns₁ hsb₁ ⊢
  have hCe : G2.objs.size = s2.heap.objs.size + 1 := by rw [← hH2, Heap.size_push]
  have hDC : s2.heap.objs.size ≠ G2.objs.size := by rw [hCe]; exact Nat.ne_of_lt (Nat.lt_succ_self _)
  have hCle : s2.heap.objs.size ≤ G2.objs.size := by rw [hCe]; exact Nat.le_succ _
  have old : ∀ b o, s2.heap.get? b = some o → h₁.get? b = some o := fun b o e =>
    hsb₁.extBut b o (by rw [hCe]; exact Nat.ne_of_lt (Nat.lt_succ_of_lt (Heap.lt_size e))) (Heap.get?_push_of_some _ (hH2 ▸ Heap.get?_push_of_some _ e))
  have hacc : ∃ n, h₁.get? s2.heap.objs.size = some { cls := .type "list", data := .seq #[] n } := ⟨_, hsb₁.extBut _ _ hDC (Heap.get?_push_of_some _ (hH2 ▸ Heap.get?_push_size _ rfl))⟩
  have I3 := comp_inv (D := s2.heap.objs.size) (C := G2.objs.size) (tk := s2.toks + ([] : List (Str × Value)).length) S hc I2 f2 ho old (Nat.le_refl _) hCle hDC hacc hns₁
  have flt : ∀ b ∈ fp, b < s2.heap.objs.size := fun b hbm => by obtain ⟨o, e⟩ := ho b hbm; exact Heap.lt_size e
  have st3 : tn 0 h₁ := Tn.keep _ _ _ st2 fun b _ o e => old b o e
  have hR : ∀ σ' H' s', Inv (X.comp scope G2.objs.size (compN T F) s2 H2 fp) [] σ' H' s' → Q (.ref s2.heap.objs.size) H' → compPost (model X.prog X.w) X.A X.xe none (EP X pins σ Q) (.ref s2.heap.objs.size) G2.objs.size (.ok .next) s' := fun σ' H' s' J' q => by
    obtain ⟨m', hm', _⟩ := J'.loc
    exact ⟨m', hm', fun h' hs' => ⟨.ref s2.heap.objs.size, H', comp_out I2 f2 hCle J' hs', rfl, q⟩⟩
  have lp := comp_loop (pos := pos) (iter := iter) (s3 := { s2 with heap := h₁, toks := s2.toks + ([] : List (Str × Value)).length }) (RR := compPost (model X.prog X.w) X.A X.xe none (EP X pins σ Q) (.ref s2.heap.objs.size) G2.objs.size)
    hc hb Tn st3 f2 flt hCle I3 (fun b hbm => Nat.ne_of_lt (flt b hbm)) (hq _ (I2.hok.fresh (Nat.le_refl _))) hR
  exact codeAny_compStart_list lp (Tn.self _ 0 _ _ _ st3 lp)
end
end L2
namespace L2
open PySem PySem.Spec PyProof.Rows
def Ite (K : PySem.W.Frag) (a : Addr) : It :=
  ⟨fun i H => ∃ xs x, SqL K H a xs ∧ xs[i]? = some x, fun i H v H' => ∃ p x, H p = none ∧ (∀ xs, SqL K H a xs → xs[i]? = some x) ∧ v = .ref p ∧ H' = upd H p (.tup [.int i, x]), fun i H => ∃ xs, SqL K H a xs ∧ xs.length ≤ i⟩
theorem Inv.turned2 {X : Cx} {pins : List (Addr × Obj)} {σ : St} {H : Hp} {s : Shared} {h' : Heap} {t' : Nat} {e it p : Addr} {xs : List V} {its : List Value} (I : Inv X pins σ H s)
    (k : ∀ b o, b ≠ e → b ≠ it → s.heap.get? b = some o → h'.get? b = some o) (fe : FpOk X pins H e) (fi : FpOk X pins H it) (hp : s.heap.objs.size ≤ p) (hz : xs.length ≤ sizeLine) (rv : Vals xs its) (ht : IsTup h' p its.toArray) :
    Inv X pins σ (upd H p (.tup xs)) { s with heap := h', toks := t' } := by
  have hn : H p = none := I.hok.fresh hp
  have nb : ∀ b u, H b = some u → b ≠ e ∧ b ≠ it := fun b u q => ⟨fun z => (by rw [z, fe.1] at q; cases q), fun z => (by rw [z, fi.1] at q; cases q)⟩
  have nc : ∀ b : Addr, b ∉ [e, it] → b ≠ e ∧ b ≠ it := fun b hb => ⟨fun z => hb (by simp [z]), fun z => hb (by simp [z])⟩
  have np : ∀ b o, s.heap.get? b = some o → b ≠ p := fun b o q => Nat.ne_of_lt (Nat.lt_of_lt_of_le (Heap.lt_size q) hp)
  refine I.step (g' := s.gens) (d' := s.drawn) (ch := [e, it]) (fun b hb => ?_) (fun b o _ _ hc q _ => k b o (nc b hc).1 (nc b hc).2 q) (fun b o _ _ hc q _ => ⟨o.slots, k b o (nc b hc).1 (nc b hc).2 q⟩)
    (fun b o _ q n => by rw [upd_ne (np b o q)]; exact n) (fun b o hc q => ⟨o, k b o (nc b hc).1 (nc b hc).2 q⟩)
    (fun b ys q => by rw [upd_ne (ne_of_none q hn)]; exact q) (fun b o u q => by rw [upd_ne (ne_of_none q hn)]; exact q) (fun b ps q => ⟨#[], by rw [upd_ne (ne_of_none q hn), q]; simp⟩)
    (fun m hm => ?_) (fun b u q => ?_) I.bare
  · simp only [List.mem_cons, List.not_mem_nil, or_false] at hb
    rcases hb with rfl | rfl
    · exact ⟨fe.2.2.2.1, fe.2.1, fe.2.2.2.2.1, fe.2.2.2.2.2⟩
    · exact ⟨fi.2.2.2.1, fi.2.1, fi.2.2.2.2.1, fi.2.2.2.2.2⟩
  · obtain ⟨o, es, ep, ho, r⟩ := hm
    exact ⟨o, es, ep, k _ o (Ne.symm fe.2.1) (Ne.symm fi.2.1) ho, r⟩
  · by_cases hb : b = p
    · subst hb; rw [upd_same] at q; cases q; exact ⟨hz, its, rv, ht⟩
    · rw [upd_ne hb] at q
      refine (I.hok b u q).stay (fun c v hc z => ?_) (fun c z => by rw [upd_ne (ne_of_none z hn)]; exact z) fun c ys z => by rw [upd_ne (ne_of_none z hn)]; exact z
      rcases hc with rfl | hc
      · exact k c v (nb c u q).1 (nb c u q).2 z
      · exact k c v (nb c _ hc).1 (nb c _ hc).2 z
theorem turn_enum {P : Program} {w : World} {K : PySem.W.Frag} {elts : List Expr} {x1} {tp : Pos} (a e it : Addr) (hne : e ≠ it) : Turn P w K (.Tuple elts x1 tp) (Ite K a) [e, it] e (fun i h => (∃ old, IsEnum h e it ((i : Nat) : Int) old) ∧ h.IsListIter it a i) where
  mem := by simp
  obj := fun i h st b hb => by
    obtain ⟨⟨old, h1⟩, h2⟩ := st
    simp only [List.mem_cons, List.not_mem_nil, or_false] at hb
    rcases hb with rfl | rfl
    · exact ⟨_, h1, fun v z => by have z' : Data.fields _ = Data.cell v := z; cases z'⟩
    · obtain ⟨o, q, c, d⟩ := h2
      exact ⟨o, q, fun v z => by rw [d] at z; cases z⟩
  keep := fun i h h' st k => by
    obtain ⟨⟨old, h1⟩, h2⟩ := st
    exact ⟨⟨old, k e (by simp) _ h1⟩, h2.at fun o q => k it (by simp) o q⟩
  item := by
    intro X hP hw hK hc i pins s σ H E I hf st hg
    subst hP hw hK
    obtain ⟨⟨old, he⟩, hit⟩ := st
    obtain ⟨xs, x, hq, hx⟩ := hg
    obtain ⟨its, rv, p, hz⟩ := I.list hq
    obtain ⟨u, hu, ru⟩ := rv.get hx
    have fe := hf e (by simp)
    have fi := hf it (by simp)
    have elt : e < s.heap.objs.size := Heap.lt_size he
    have ilt : it < s.heap.objs.size := by obtain ⟨o, q, _⟩ := hit; exact Heap.lt_size q
    refine wpAny_pyNext_enum_item he hit p.isList (x := u) (by simpa using hu) hne fun h1 heo hit1 ht1 hz1 hk1 => ?_
    refine ⟨_, rfl, wpAny_letOwnedTupleGo_enum heo fun h2 he2 hs2 => ?_⟩
    replace hs2 : Heap.SameBut e h1 h2 := hs2
    have k2 : ∀ b o, b ≠ e → b ≠ it → s.heap.get? b = some o → h2.get? b = some o := fun b o hbe hbi q => hs2.extBut b o hbe (hk1 b o hbe hbi q)
    have ht2 : IsTup h2 s.heap.objs.size ([Value.int i s.toks, u] : List Value).toArray := ⟨_, (hs2.2 _ (Nat.ne_of_gt elt)).trans ht1, rfl, _, rfl⟩
    have J := I.turned2 (t' := s.toks + 1) (xs := [.int i, x]) k2 fe fi (Nat.le_refl _) (by simp only [List.length_cons, List.length_nil]; rw [sizeLine_eq]; decide) (.cons ⟨_, rfl⟩ (.cons ru .nil)) ht2
    refine ⟨.ref s.heap.objs.size, _, J, rfl, ⟨_, x, I.hok.fresh (Nat.le_refl _), fun ys hy => by rw [I.list_inj hy hq]; exact hx, rfl, rfl⟩, ⟨⟨_, he2⟩, hit1.extBut hs2.extBut (Ne.symm hne)⟩, fun b hb => ?_⟩
    simp only [List.mem_cons, List.not_mem_nil, or_false] at hb
    rcases hb with rfl | rfl
    · rw [upd_ne (Nat.ne_of_lt elt)]; exact fe.1
    · rw [upd_ne (Nat.ne_of_lt ilt)]; exact fi.1
  done := by
    intro X hP hw hK hc i pins s σ H E I hf st hg
    subst hP hw hK
    obtain ⟨⟨old, he⟩, hit⟩ := st
    obtain ⟨xs, hq, hx⟩ := hg
    obtain ⟨its, rv, p, hz⟩ := I.list hq
    obtain ⟨f0, f1, f2, f3, f4, f5⟩ := hf it (by simp)
    have hl := rv.length
    exact wpAny_pyNext_enum_end (I.ok.hd hc) he hit p.isList (by simp; omega) fun h' eb => ⟨rfl, I.turned (t' := s.toks) (fun b o hb q => eb b o hb q) f0 f1 f3 f4 f5⟩
  self := fun _ _ _ _ _ st h => by
    obtain ⟨⟨old, he⟩, _⟩ := st
    exact wpAny_pyIter_enum he h
def iEnum (K : PySem.W.Frag) (ta : TA) : TI := fun σ H R => ta σ H fun vs H1 => ∃ a, vs = [.ref a] ∧ (∃ xs, H1 a = some (.lst xs)) ∧ R (Ite K a) H1
theorem pi_enum {X : Cx} {elts : List Expr} {x1} {tp : Pos} {a : Expr} {ta : TA} {p pos : Pos} (hg : Gl X "enumerate") (hm : X.mg "enumerate" = none) (hb : bootBuiltins "enumerate" = some (.type "enumerate")) (ha : PA X [a] ta) (hs : starEach [a] X.env = [(false, eval a X.env)] := by rfl) :
    PI X (.Tuple elts x1 tp) (.Call (.Name "enumerate" p) [a] [] pos) (iEnum X.K ta) := by
  intro pins s σ H R I h
  refine Call_ (ld_blt I hg hm hb (PyProof.Rows.callWith_type1 (thn (ha pos pins s σ H _ I h) fun us s1 ⟨vs, H1, I1, r1, q1⟩ => ?_) hs rfl))
  obtain ⟨l, e, ⟨xs, hl⟩, q⟩ := q1
  subst e
  cases r1 with
  | cons r rr =>
    cases rr
    cases r
    obtain ⟨z, its, n, rv, hget⟩ := I1.hok l _ hl
    refine call_enumerate_1 hget fun h' he hit hsz hk => ?_
    refine wpAny_pyIter_enum (s := { s1 with heap := h' }) he ?_
    have I2 : Inv X pins σ H1 { s1 with heap := h' } := I1.kept (t' := s1.toks) hk
    refine ⟨s1.heap.objs.size + 1, [s1.heap.objs.size + 1, s1.heap.objs.size], _, _, H1, rfl, I2, turn_enum l _ _ (Nat.succ_ne_self _), ⟨⟨_, he⟩, hit⟩, fun b hb => ?_, q⟩
    have hb' : s1.heap.objs.size ≤ b := by
      simp only [List.mem_cons, List.not_mem_nil, or_false] at hb
      rcases hb with rfl | rfl
      · exact Nat.le_succ _
      · exact Nat.le_refl _
    exact I1.fpOk hb' (I1.hok.fresh hb')
theorem for_enum {K : PySem.W.Frag} {a : Addr} {xs : List V} {g : TG} {tb : TS} {D : Ends} {σ : St} {H : Hp} (Pv : Nat → St → Hp → Prop) (h0 : Pv 0 σ H) (hl : ∀ i σ H, i ≤ xs.length → Pv i σ H → SqL K H a xs)
    (hs : ∀ i x σ H p, xs[i]? = some x → Pv i σ H → H p = none → g (.ref p) σ (upd H p (.tup [.int i, x])) fun σ2 H2 => tb { D with nx := Pv (i + 1), ct := Pv (i + 1), bk := D.nx } σ2 H2) (hd : ∀ σ H, Pv xs.length σ H → D.nx σ H) :
    ∃ W : Nat → Nat → St → Hp → Prop, (∃ m, W 0 m σ H) ∧ ∀ i m σ H, W i m σ H →
      ((Ite K a).stop i H ∧ D.nx σ H) ∨ ((Ite K a).go i H ∧ ∃ N : St → Hp → Prop, (∀ σ' H', N σ' H' → ∃ m', m' < m ∧ W (i + 1) m' σ' H') ∧ ∀ x H', (Ite K a).yld i H x H' → g x σ H' fun σ2 H2 => tb { D with nx := N, ct := N, bk := D.nx } σ2 H2) := by
  refine ⟨fun i m σ H => m = xs.length - i ∧ i ≤ xs.length ∧ Pv i σ H, ⟨xs.length, by simp, Nat.zero_le _, h0⟩, ?_⟩
  rintro i m σ H ⟨rfl, hi, p⟩
  have q := hl i σ H hi p
  by_cases hlt : i < xs.length
  · refine .inr ⟨⟨xs, xs[i], q, by simp [hlt]⟩, Pv (i + 1), fun σ' H' p' => ⟨xs.length - (i + 1), by omega, rfl, hlt, p'⟩, fun x H' y => ?_⟩
    obtain ⟨r, y', hn, hy, rfl, rfl⟩ := y
    exact hs i y' σ _ r (hy xs q) p hn
  · have e : i = xs.length := by omega
    subst e
    exact .inl ⟨⟨xs, q, Nat.le_refl _⟩, hd σ H p⟩
section
variable {X : Cx}
theorem bools_at {bs : List Bool} : ∀ {us : List Value}, Vals (bs.map V.bl) us → us = bs.map Value.bool := by
  induction bs with
  | nil => intro us r; rw [List.map_nil] at r; cases r; rfl
  | cons b r ih =>
    intro us h
    rw [List.map_cons] at h
    cases h with
    | cons h1 h2 => cases h1; rw [ih h2]; rfl
theorem range_all (bs : List Bool) : (List.range bs.length).all (fun i => bs.getD i false) = bs.all id := by
  rw [Bool.eq_iff_iff]
  simp only [List.all_eq_true, List.mem_range]
  constructor
  · intro h b hb
    obtain ⟨i, hi, e⟩ := List.mem_iff_getElem.mp hb
    have := h i hi
    rw [List.getD_eq_getElem?_getD, List.getElem?_eq_getElem hi] at this
    rw [← e]; exact this
  · intro h i hi
    rw [List.getD_eq_getElem?_getD, List.getElem?_eq_getElem hi]
    exact h _ (List.getElem_mem hi)
theorem call_all (hc : X.calm = true) : CallR X (.builtin "all") (fun xs H Q => ∃ (p : Addr) (bs : List Bool), xs = [.ref p] ∧ SqL X.K H p (bs.map V.bl) ∧ Q (.bl (bs.all id)) H) := by
  intro pins s σ H xs us Q I r h
  obtain ⟨a, bs, rfl, ha, q⟩ := h
  obtain ⟨u, rfl, ru⟩ := r.one
  cases ru
  obtain ⟨its, rv, p, hz⟩ := I.list ha
  have hits := bools_at rv
  subst hits
  have hne : a ≠ s.heap.objs.size := by
    obtain ⟨o, ho, _⟩ := p.isList
    exact Nat.ne_of_lt (Heap.lt_size ho)
  refine call_all_walk (wpAny_pyIter_list p.isList ?_)
  have W := Walks.list (prog := X.prog) (w := X.w) (A := X.A.in1) (I.ok.hd hc) s.heap.objs.size a hne (bs.map Value.bool).toArray
  refine ⟨s.heap.objs.size, _, _, _, _, _, fun i => bs.getD i false, rfl, W, ⟨⟨_, Heap.get?_push_size _ rfl, rfl, rfl⟩, ?_⟩, ?_, ?_⟩
  · obtain ⟨o, ho, r⟩ := p.isList
    exact ⟨o, Heap.get?_push_of_some _ ho, r⟩
  · intro i v s' Q' E' hv hq
    rw [List.getElem?_toArray, List.getElem?_map] at hv
    cases e : bs[i]? with
    | none => rw [e] at hv; cases hv
    | some b =>
      rw [e] at hv
      have hv : Value.bool b = v := Option.some.inj hv
      subst hv
      have hq : Q' (bs.getD i false) s' := hq
      rw [List.getD_eq_getElem?_getD, e] at hq
      exact wpAny_truthy_bool hq
  · intro h' tk hk
    refine ⟨.bl (bs.all id), H, I.kept fun b o e => hk b o (by simpa using Nat.ne_of_lt (Heap.lt_size e)) (Heap.get?_push_of_some _ e), ?_, q⟩
    have e : (bs.map Value.bool).toArray.size = bs.length := by simp
    show Value.bool _ = Value.bool _
    rw [e, range_all]
theorem call_isinst : CallR X (.builtin "isinstance") (fun xs H Q => ∃ x c t b, xs = [x, .ty c] ∧ TyOf X.K H x t ∧ PySem.W.kitOne X.K t (.type c) = some b ∧ Q (.bl b) H) := by
  intro pins s σ H xs us Q I r h
  obtain ⟨x, c, t, b, rfl, ty, e, q⟩ := h
  obtain ⟨u, v, rfl, ru, rv⟩ := r.two
  cases rv
  exact isinst_ok I ru ty e fun tk => ⟨.bl b, H, I.tok tk, rfl, q⟩
theorem op_eqL (hu : X.A.units + 64 < cLine) : OpR X (compareOp .Eq) (fun x y H Q => ∃ (a b : Addr) (ns ms : List Int), x = .ref a ∧ y = .ref b ∧ SqL X.K H a (ns.map V.int) ∧ SqL X.K H b (ms.map V.int) ∧ Q (.bl (decide (ns = ms))) H) := by
  intro pins s σ H x y v u Q I rx ry h
  obtain ⟨a, b, ns, ms, rfl, rfl, ha, hb, q⟩ := h
  cases rx
  cases ry
  obtain ⟨i1, r1, p1, _⟩ := I.list ha
  obtain ⟨i2, r2, p2, _⟩ := I.list hb
  exact PySem.W.ke_eq_ints p1.isList p2.isList (intsAre_of r1) (intsAre_of r2) hu ⟨.bl _, H, I, rfl, q⟩
end
end L2
namespace L2
open PySem PySem.Spec PyProof.Rows
section
variable {X : Cx} {elt tg iter : Expr} {ifs : List Expr} {scope : Scope} {pos spos py : Pos} {T : List Str} {F : List (Str × Nat)} {wi : TI} {g : TG} {tt : TT} {te : TE}
end
end L2
namespace L2
open PySem PySem.Spec PyProof.Rows
def tAny (X : Cx) (st : List Stmt) : TS := fun D σ H => ∃ t, PSs X st t ∧ t D σ H
theorem pss_any {X : Cx} {st : List Stmt} : PSs X st (tAny X st) := fun pins s σ H D I h => by
  obtain ⟨t, ht, q⟩ := h
  exact ht pins s σ H D I q
end L2
namespace L2
open PySem PySem.Spec PyProof.Rows
end L2
namespace L2
open PySem PySem.Spec PyProof.Rows
end L2
namespace L2
open PySem PySem.Spec PyProof.Rows
mutual
inductive DH (H : Hp) : V → PyData → Prop
  | int (i : Int) : DH H (.int i) (.int i)
  | lst {a : Addr} {xs : List V} {ds : List PyData} : H a = some (.lst xs) → DHs H xs ds → DH H (.ref a) (.list ds)
  | tup {a : Addr} {xs : List V} {ds : List PyData} : H a = some (.tup xs) → DHs H xs ds → DH H (.ref a) (.tuple ds)
inductive DHs (H : Hp) : List V → List PyData → Prop
  | nil : DHs H [] []
  | cons {x : V} {xs : List V} {d : PyData} {ds : List PyData} : DH H x d → DHs H xs ds → DHs H (x :: xs) (d :: ds)
end
section
variable {X : Cx} {pins : List (Addr × Obj)} {σ : St} {H : Hp} {s : Shared}
mutual
theorem DH.reads {v : V} {d : PyData} (I : Inv X pins σ H s) (h : DH H v d) {u : Value} (r : RelV v u) : ∃ as, Reads s.heap u d as := by
  cases h with
  | int i => obtain ⟨t, rfl⟩ := r; exact ⟨_, .int i t⟩
  | lst e hs =>
    cases r
    obtain ⟨_, its, n, rv, hg⟩ := I.hok _ _ e
    obtain ⟨as, ra⟩ := DHs.reads I hs rv
    exact ⟨_, .list hg rfl rfl (by simpa using ra)⟩
  | tup e hs =>
    cases r
    obtain ⟨_, its, rv, o, hg, hc, n, hd⟩ := I.hok _ _ e
    obtain ⟨as, ra⟩ := DHs.reads I hs rv
    exact ⟨_, .tuple hg hc hd (by simpa using ra)⟩
theorem DHs.reads {xs : List V} {ds : List PyData} (I : Inv X pins σ H s) (h : DHs H xs ds) {us : List Value} (r : Vals xs us) : ∃ as, ReadsAll s.heap us ds as := by
  cases h with
  | nil => cases r; exact ⟨_, .nil⟩
  | cons h1 h2 =>
    cases r with
    | cons r1 r2 =>
      obtain ⟨as, ra⟩ := DH.reads I h1 r1
      obtain ⟨bs, rb⟩ := DHs.reads I h2 r2
      exact ⟨_, .cons ra rb⟩
end
end
end L2
namespace L2
open PySem PySem.Spec PyProof.Rows
section
variable {prog : Program} {w : World} {A : Around} {s : Shared} {R : Result → Shared → Prop} {I : Addr} {fp wr : List Addr} {G : Array GenState → Array GenState → Prop} {n : Nat} {P : Nat → Value → Prop} {St : Nat → Shared → Prop}
end
end L2
namespace L2
open PySem PySem.Spec PyProof.Rows
structure Def (K : PySem.W.Frag) (mg : Str → Option Value) (x : Str) (st : Stmt) (ps : List Str) : Prop where
  ex : ∃ f fd, Fun K x x st f fd ∧ mg x = some (.ref f) ∧ Binds K fd ps []
structure Cal (P : Program) (w : World) (K : PySem.W.Frag) (mg : Str → Option Value) (base : Heap) (k : Nat) (x : Str) (ps : List Str) (sp : Sp) : Prop where
  ex : ∃ f fd, FnOk P w K mg base CX0 k f fd ps sp ∧ mg x = some (.ref f) ∧ PySem.W.keepIn K (.ref f) = true ∧ Binds K fd ps []
section
variable {P : Program} {w : World} {K : PySem.W.Frag} {mg : Str → Option Value} {base : Heap} {x : Str} {st : Stmt} {ps N : List Str} {sp : Sp} {k j : Nat}
theorem Def.ok (D : Def K mg x st ps) (S : FnScope N ps (defScope st)) (len : ∀ vs H Q E, sp vs H Q E → vs.length = ps.length)
    (hbody : ∀ (f : Addr) (cdv : Value) (A : Around) (outer : List Env) (s : Shared) (H : Hp) (vs : List V) (Q : VK) (E : XK), Room k (A.deeper (envOfC x (defScope st) s.heap.objs.size f cdv)) → sp vs H Q E →
      ∃ t, PSs (cxOf CX0 P w K mg base N x (defScope st) f cdv A outer s H E).nox (defBody st) t ∧ t { nx := fun _ H' => Q .non H', rt := Q } (start N vs) H) : Cal P w K mg base (k + 1) x ps sp := by
  obtain ⟨f, fd, F, hm, hb⟩ := D.ex
  exact ⟨f, fd, F.ok S len (hbody f), hm, F.kp, hb⟩
theorem Cal.mono (C : Cal P w K mg base j x ps sp) (h : j ≤ k) : Cal P w K mg base k x ps sp := by
  obtain ⟨f, fd, F, hm, hk, hb⟩ := C.ex
  exact ⟨f, fd, F.mono h, hm, hk, hb⟩
theorem Cal.imp {sp' : Sp} (C : Cal P w K mg base k x ps sp) (h : ∀ vs H Q E, sp' vs H Q E → sp vs H Q E) : Cal P w K mg base k x ps sp' := by
  obtain ⟨f, fd, F, hm, hk, hb⟩ := C.ex
  exact ⟨f, fd, F.imp h, hm, hk, hb⟩
end
section
variable {X : Cx} {x : Str} {ps : List Str} {sp : Sp} {k : Nat} {p pos : Pos} {e : Expr} {es : List Expr} {t : TA}
theorem pe_fn (C : Cal X.prog X.w X.K X.mg X.base k x ps sp) (hr : Room k X.A) (ha : PA X (e :: es) t) (hg : Gl X x := by rfl) (hdb : (x == ("__debug__" : Str)) = false := by decide) (he : starEach (e :: es) X.env = (false, eval e X.env) :: starEach es X.env := by rfl)
    (hpl : (backTo pos (starEach es X.env)).any (·.1) = false := by rfl) : PE X (.Call (.Name x p) (e :: es) [] pos) (tCall sp [] E0 t) := by
  obtain ⟨f, fd, F, hm, hk, hb⟩ := C.ex
  exact pe_call F hr hg hm hk hb .nil pass0 ha hdb he hpl
end
structure Bn (mg : Str → Option Value) : Prop where
  len : mg "len" = none
  range : mg "range" = none
  list : mg "list" = none
  all : mg "all" = none
  isinstance : mg "isinstance" = none
  int : mg "int" = none
  bool : mg "bool" = none
  tuple : mg "tuple" = none
  min : mg "min" = none
  max : mg "max" = none
  enumerate : mg "enumerate" = none
  reversed : mg "reversed" = none
theorem map_get {ns : List Int} {i : Nat} {y : V} (h : (ns.map V.int)[i]? = some y) : ∃ z, ns[i]? = some z ∧ y = V.int z := by
  rw [List.getElem?_map] at h
  cases e : ns[i]? with
  | none => rw [e] at h; cases h
  | some z => rw [e] at h; exact ⟨z, rfl, (Option.some.inj h).symm⟩
theorem map_at {ns : List Int} {i : Nat} {z : Int} (h : ns[i]? = some z) : (ns.map V.int)[i]? = some (V.int z) := by
  rw [List.getElem?_map, h]; rfl
end L2
namespace Law
open PySem L2 SA
seal PE PA PT PW PS PSs PG PGs PI PC PIfs PSet OpR UnR CallR IxR SlR PO
section
variable {P : Program} {w : World} {K : PySem.W.Frag} {mg : Str → Option Value} {base : Heap}
def spCell (K : PySem.W.Frag) : Sp := fun vs H Q _ => ∃ (a : Addr) (ns : List Int) (k : Nat), vs = [.ref a, .int k] ∧ SqL K H a (ns.map V.int) ∧ Q (.int (ns.getD k 0)) H
def draw (c k b : Int) : Int := (((((c % 2147483647 + 977 * k + 1) * 48271 % 2147483647) * ((c % 2147483647 + 977 * k + 1) * 48271 % 2147483647) % 2147483629 + 40692 * (k + 3)) * 69621 % 2147483647) / 8) % b
theorem draw_range (c k : Int) {b : Int} (hb : 0 < b) : 0 ≤ draw c k b ∧ draw c k b < b := ⟨Int.emod_nonneg _ (by omega), Int.emod_lt_of_pos _ hb⟩
def spDraw : Sp := fun vs H Q _ => ∃ (c k b : Int), vs = [.int c, .int k, .int b] ∧ 0 < b ∧ Q (.int (draw c k b)) H
theorem ixN_nat {n j : Nat} (h : j < n) : ixN n (j : Int) = some j := by
  unfold ixN
  rw [if_pos (by omega), if_pos (by omega)]; simp
theorem map_put (row : List Int) (n p : Nat) : ((row.map V.int).set p (V.int n)).set (p + n) (V.int n) = (put row n p).map V.int := by
  unfold put
  rw [List.map_set, List.map_set]
structure Found (H₀ H : Hp) (d : Addr) (pre : List Int) (kvs : List (Key × V)) : Prop where
  dc : H d = some (.dK kvs)
  nd : H₀ d = none
  sm : Same H₀ H
  no : ∀ n : Int, plc pre 0 n = [] → valV kvs (Sum.inl n : Key) = none
  ye : ∀ n : Int, plc pre 0 n ≠ [] → ∃ l, valV kvs (Sum.inl n : Key) = some (.ref l) ∧ H₀ l = none ∧ H l = some (.lst ((plc pre 0 n).map V.int))
  ij : ∀ (n m : Int) l, valV kvs (Sum.inl n : Key) = some (.ref l) → valV kvs (Sum.inl m : Key) = some (.ref l) → n = m
  ln : kvs.length ≤ pre.length
theorem found_nil {H₀ : Hp} {d : Addr} (h : H₀ d = none) : Found H₀ (upd H₀ d (.dK [])) d [] [] :=
  ⟨upd_same, h, fun b o e => by rw [upd_ne (ne_of_none e h)]; exact e, fun n _ => rfl, fun n h => absurd rfl h, fun n m l e => (by cases e), Nat.le_refl _⟩
theorem Found.upd_new {H₀ H : Hp} {d : Addr} {pre : List Int} {kvs : List (Key × V)} (F : Found H₀ H d pre kvs) {p : Addr} {o : HO} (hp : H p = none) : Found H₀ (upd H p o) d pre kvs :=
  ⟨by rw [upd_ne (ne_of_none F.dc hp)]; exact F.dc, F.nd, fun b o' e => by rw [upd_ne (ne_of_none (F.sm b o' e) hp)]; exact F.sm b o' e, F.no,
    fun n hn => by
      obtain ⟨l, h1, h2, h3⟩ := F.ye n hn
      exact ⟨l, h1, h2, by rw [upd_ne (ne_of_none h3 hp)]; exact h3⟩, F.ij, F.ln⟩
theorem Found.app {H₀ H : Hp} {d : Addr} {pre : List Int} {kvs : List (Key × V)} (F : Found H₀ H d pre kvs) {x : Int} {l : Addr} (hx : plc pre 0 x ≠ []) (hl : valV kvs (Sum.inl x : Key) = some (.ref l)) :
    Found H₀ (upd H l (.lst ((plc pre 0 x).map V.int ++ [V.int pre.length]))) d (pre ++ [x]) kvs := by
  obtain ⟨l', h1, h2, h3⟩ := F.ye x hx
  rw [hl] at h1
  have e : l = l' := by simpa using h1
  subst e
  have nd : d ≠ l := ne_of F.dc h3 (by intro z; cases z)
  have pe : ∀ n : Int, n ≠ x → plc (pre ++ [x]) 0 n = plc pre 0 n := fun n hn => by rw [plc_snoc, if_neg (Ne.symm hn), List.append_nil]
  have px : plc (pre ++ [x]) 0 x = plc pre 0 x ++ [(pre.length : Int)] := by rw [plc_snoc, if_pos rfl]
  refine ⟨by rw [upd_ne nd]; exact F.dc, F.nd, fun b o q => ?_, fun n hn => ?_, fun n hn => ?_, F.ij, by rw [List.length_append]; have := F.ln; omega⟩
  · rw [upd_ne (ne_of_none q h2)]; exact F.sm b o q
  · by_cases hnx : n = x
    · subst hnx; rw [px] at hn; simp at hn
    · rw [pe n hnx] at hn; exact F.no n hn
  · by_cases hnx : n = x
    · subst hnx
      refine ⟨l, hl, h2, ?_⟩
      rw [upd_same, px, List.map_append]; rfl
    · rw [pe n hnx] at hn ⊢
      obtain ⟨l2, g1, g2, g3⟩ := F.ye n hn
      refine ⟨l2, g1, g2, ?_⟩
      rw [upd_ne (fun z => hnx (F.ij n x l (by rw [← z]; exact g1) hl))]; exact g3
theorem Found.put {H₀ H : Hp} {d : Addr} {pre : List Int} {kvs : List (Key × V)} (F : Found H₀ H d pre kvs) {x : Int} {l : Addr} (hx : plc pre 0 x = []) (hn : H l = none) (hz : H₀ l = none) :
    Found H₀ (upd (upd (upd H l (.lst [])) d (.dK (putK kvs (Sum.inl x) (.ref l)))) l (.lst [V.int pre.length])) d (pre ++ [x]) (putK kvs (Sum.inl x) (.ref l)) := by
  have nd : d ≠ l := ne_of_none F.dc hn
  have pe : ∀ n : Int, n ≠ x → plc (pre ++ [x]) 0 n = plc pre 0 n := fun n hn => by rw [plc_snoc, if_neg (Ne.symm hn), List.append_nil]
  have px : plc (pre ++ [x]) 0 x = plc pre 0 x ++ [(pre.length : Int)] := by rw [plc_snoc, if_pos rfl]
  have nk : ∀ n : Int, n ≠ x → (Sum.inl n : Key) ≠ Sum.inl x := fun n h e => h (by injection e)
  have old : ∀ (n : Int) l2, valV kvs (Sum.inl n : Key) = some (.ref l2) → l2 ≠ l := fun n l2 e z => by
    by_cases q : plc pre 0 n = []
    · rw [F.no n q] at e; cases e
    · obtain ⟨l3, g1, _, g3⟩ := F.ye n q
      rw [e] at g1
      have e2 : l2 = l3 := by simpa using g1
      subst e2; subst z
      rw [g3] at hn; cases hn
  refine ⟨?_, F.nd, fun b o q => ?_, fun n hq => ?_, fun n hq => ?_, fun n m l2 e1 e2 => ?_, ?_⟩
  · rw [upd_ne nd, upd_same]
  · rw [upd_ne (ne_of_none q hz), upd_ne (ne_of_none q F.nd), upd_ne (ne_of_none q hz)]; exact F.sm b o q
  · by_cases hnx : n = x
    · subst hnx; rw [px] at hq; simp at hq
    · rw [pe n hnx] at hq
      rw [valV_put, if_neg (nk n hnx)]; exact F.no n hq
  · by_cases hnx : n = x
    · subst hnx
      refine ⟨l, by rw [valV_put, if_pos rfl], hz, ?_⟩
      rw [upd_same, px, hx]; rfl
    · rw [pe n hnx] at hq ⊢
      obtain ⟨l2, g1, g2, g3⟩ := F.ye n hq
      refine ⟨l2, by rw [valV_put, if_neg (nk n hnx)]; exact g1, g2, ?_⟩
      have n1 : l2 ≠ l := old n l2 g1
      have n2 : l2 ≠ d := fun z => by rw [z, F.dc] at g3; cases g3
      rw [upd_ne n1, upd_ne n2, upd_ne n1]; exact g3
  · rw [valV_put] at e1 e2
    by_cases h1 : n = x
    · by_cases h2 : m = x
      · rw [h1, h2]
      · rw [if_pos (by rw [h1])] at e1
        rw [if_neg (nk m h2)] at e2
        have e3 : l = l2 := by simpa using e1
        exact absurd e3.symm (old m l2 e2)
    · rw [if_neg (nk n h1)] at e1
      by_cases h2 : m = x
      · rw [if_pos (by rw [h2])] at e2
        have e3 : l = l2 := by simpa using e2
        exact absurd e3.symm (old n l2 e1)
      · rw [if_neg (nk m h2)] at e2
        exact F.ij n m l2 e1 e2
  · have := length_putK kvs (Sum.inl x : Key) (V.ref l)
    rw [List.length_append]
    have := F.ln
    simp only [List.length_cons, List.length_nil]
    omega
def spFound : Sp := fun vs H Q _ => ∃ (a : Addr) (row : List Int), vs = [.ref a] ∧ H a = some (.lst (row.map V.int)) ∧ row.length ≤ 1000 ∧ ∀ d kvs H', Found H H' d row kvs → Q (.ref d) H'
def sw (n : Int) : List Int → Bool
  | [p, q] => decide (q - p = n)
  | _ => false
def spSw (K : PySem.W.Frag) : Sp := fun vs H Q _ => ∃ (a : Addr) (n : Int) (ps : List Int), vs = [.int n, .ref a] ∧ SqL K H a (ps.map V.int) ∧ Q (.bl (sw n ps)) H
end
end Law
namespace L2
open PySem PySem.Spec PyProof.Rows
theorem comp_range {lo : Int} {n : Nat} {l : Addr} {g : TG} {tt : TT} {te : TE} {σ₀ : St} {H1 : Hp} {Q : Hp → Prop} (Pv : Nat → St → List V → Hp → Prop) (h0 : Pv 0 σ₀ [] (upd H1 l (.lst [])))
    (hs : ∀ i σ ys H, i < n → Pv i σ ys H → g (.int (lo + i)) σ H fun σ2 H2 => tt σ2 H2 fun b H3 =>
      if b = true then te σ2 H3 fun v H4 => H4 l = some (.lst ys) ∧ ys.length < sizeLine ∧ Pv (i + 1) σ2 (ys ++ [v]) (upd H4 l (.lst (ys ++ [v]))) else Pv (i + 1) σ2 ys H3)
    (hd : ∀ σ ys H, Pv n σ ys H → Q H) : tCompB l (Itr lo n) g tt te σ₀ H1 Q := by
  refine ⟨fun i m σ ys H => m = n - i ∧ i ≤ n ∧ Pv i σ ys H, ⟨n, by simp, Nat.zero_le _, h0⟩, ?_⟩
  rintro i m σ ys H ⟨rfl, hi, p⟩
  by_cases hlt : i < n
  · refine .inr ⟨hlt, Pv (i + 1), fun σ2 ys2 H2 q => ⟨n - (i + 1), by omega, rfl, hlt, q⟩, fun x H' y => ?_⟩
    obtain ⟨e, y⟩ := y
    subst e y
    exact hs i σ ys _ hlt p
  · have e : i = n := by omega
    subst e
    exact .inl ⟨Nat.le_refl _, hd σ ys H p⟩
theorem comp_yes {i : Nat} {x : V} {σ : St} {H : Hp} {A B : St → Hp → Prop} (h : A (σ.set i (some x)) H) : gName i x σ H fun σ2 H2 => tYes σ2 H2 fun b H3 => if b = true then A σ2 H3 else B σ2 H3 := by
  show if true = true then A (σ.set i (some x)) H else B (σ.set i (some x)) H
  rw [if_pos rfl]
  exact h
theorem comp_list {K : PySem.W.Frag} {a : Addr} {xs : List V} {l : Addr} {g : TG} {tt : TT} {te : TE} {σ₀ : St} {H1 : Hp} {Q : Hp → Prop} (Pv : Nat → St → List V → Hp → Prop) (h0 : Pv 0 σ₀ [] (upd H1 l (.lst []))) (hl : ∀ i σ ys H, i ≤ xs.length → Pv i σ ys H → SqL K H a xs)
    (hs : ∀ i x σ ys H, xs[i]? = some x → Pv i σ ys H → g x σ H fun σ2 H2 => tt σ2 H2 fun b H3 =>
      if b = true then te σ2 H3 fun v H4 => H4 l = some (.lst ys) ∧ ys.length < sizeLine ∧ Pv (i + 1) σ2 (ys ++ [v]) (upd H4 l (.lst (ys ++ [v]))) else Pv (i + 1) σ2 ys H3)
    (hd : ∀ σ ys H, Pv xs.length σ ys H → Q H) : tCompB l (Itl K a) g tt te σ₀ H1 Q := by
  refine ⟨fun i m σ ys H => m = xs.length - i ∧ i ≤ xs.length ∧ Pv i σ ys H, ⟨xs.length, by simp, Nat.zero_le _, h0⟩, ?_⟩
  rintro i m σ ys H ⟨rfl, hi, p⟩
  have q := hl i σ ys H hi p
  by_cases hlt : i < xs.length
  · refine .inr ⟨⟨xs, xs[i], q, by simp [hlt]⟩, Pv (i + 1), fun σ2 ys2 H2 q => ⟨xs.length - (i + 1), by omega, rfl, hlt, q⟩, fun x H' y => ?_⟩
    obtain ⟨e, y⟩ := y
    subst e
    exact hs i x σ ys _ (y xs q) p
  · have e : i = xs.length := by omega
    subst e
    exact .inl ⟨⟨xs, q, Nat.le_refl _⟩, hd σ ys H p⟩
end L2
namespace Law
open PySem L2 SA
seal PE PA PT PW PS PSs PG PGs PI PC PIfs PSet OpR UnR CallR IxR SlR PO
section
variable {P : Program} {w : World} {K : PySem.W.Frag} {mg : Str → Option Value} {base : Heap}
open Classical in
noncomputable def isRowC (row : List Int) : Bool := decide (IsRow row)
theorem isRowC_iff (row : List Int) : isRowC row = true ↔ IsRow row := by unfold isRowC; simp
def spIsRow : Sp := fun vs H Q _ => ∃ (a : Addr) (row : List Int), vs = [.ref a] ∧ H a = some (.lst (row.map V.int)) ∧ row.length ≤ 1000 ∧ ∀ H', Same H H' → Q (.bl (isRowC row)) H'
theorem sw_iff {n : Int} {ps : List Int} : sw n ps = true ↔ ∃ p q, ps = [p, q] ∧ q - p = n := by
  match ps with
  | [] => simp [sw]
  | [_] => simp [sw]
  | [p, q] =>
    simp only [sw, decide_eq_true_iff]
    exact ⟨fun h => ⟨p, q, rfl, h⟩, fun ⟨p', q', e, h⟩ => by injection e with e1 e2; injection e2 with e2 _; subst e1 e2; exact h⟩
  | _ :: _ :: _ :: _ => simp [sw]
theorem isRow_bool (row : List Int) (h1 : (row.length : Int) = 2 * ((row.length : Int) / 2)) (h2 : 1 ≤ (row.length : Int) / 2) (h3 : (row.length : Int) / 2 ≤ 400) :
    ((List.range (row.length / 2)).map fun (i : Nat) => sw (1 + (i : Int)) (plc row 0 (1 + (i : Int)))).all id = isRowC row := by
  rw [Bool.eq_iff_iff, isRowC_iff, isRow_iff]
  simp only [List.all_eq_true, List.mem_map, List.mem_range, id]
  constructor
  · intro h
    refine ⟨h1, h2, h3, fun n a b => ?_⟩
    have := h _ ⟨(n - 1).toNat, by omega, rfl⟩
    have e : (1 : Int) + (((n - 1).toNat : Nat) : Int) = n := by omega
    rw [e] at this
    exact sw_iff.mp this
  · rintro ⟨_, _, _, h⟩ x ⟨i, hi, rfl⟩
    exact sw_iff.mpr (h _ (by omega) (by omega))
structure Looked (H₀ H : Hp) (a d1 d2 : Addr) (row pre : List Int) (k1 k2 : List (Key × V)) : Prop where
  sm : Same H₀ H
  h1 : H d1 = some (.dK k1)
  h2 : H d2 = some (.dK k2)
  n0 : ∀ n : Int, plc pre 0 n = [] → valV k1 (Sum.inl n : Key) = none
  n1 : ∀ (n p : Int) r, plc pre 0 n = p :: r → valV k1 (Sum.inl n : Key) = some (.int p)
  b0 : ∀ n : Int, (plc pre 0 n).length < 2 → valV k2 (Sum.inl n : Key) = none
  b1 : ∀ n : Int, 2 ≤ (plc pre 0 n).length → valV k2 (Sum.inl n : Key) = some (.bl true)
  nd : (k2.map (·.1)).Nodup
  ik : ∀ k ∈ k2.map (·.1), ∃ n : Int, k = Sum.inl n
  l1 : k1.length ≤ pre.length
  l2 : k2.length ≤ pre.length
theorem key_ne {n x : Int} (h : n ≠ x) : (Sum.inl n : Key) ≠ Sum.inl x := fun e => h (by injection e)
theorem Looked.first {H₀ H : Hp} {a d1 d2 : Addr} {row pre : List Int} {k1 k2 : List (Key × V)} (L : Looked H₀ H a d1 d2 row pre k1 k2) (hd : H₀ d1 = none) {x : Int} (hx : plc pre 0 x = []) :
    Looked H₀ (upd H d1 (.dK (putK k1 (Sum.inl x) (.int pre.length)))) a d1 d2 row (pre ++ [x]) (putK k1 (Sum.inl x) (.int pre.length)) k2 ∨ d1 = d2 := by
  by_cases e : d1 = d2
  · exact .inr e
  · have pe : ∀ n : Int, n ≠ x → plc (pre ++ [x]) 0 n = plc pre 0 n := fun n hn => by rw [plc_snoc, if_neg (Ne.symm hn), List.append_nil]
    have px : plc (pre ++ [x]) 0 x = [(pre.length : Int)] := by rw [plc_snoc, if_pos rfl, hx]; rfl
    refine .inl ⟨fun b o q => by rw [upd_ne (ne_of_none q hd)]; exact L.sm b o q, upd_same, by rw [upd_ne (Ne.symm e)]; exact L.h2, fun n hn => ?_, fun n p r hn => ?_, fun n hn => ?_, fun n hn => ?_, L.nd, L.ik, ?_, ?_⟩
    · by_cases hnx : n = x
      · subst hnx; rw [px] at hn; cases hn
      · rw [pe n hnx] at hn; rw [valV_put, if_neg (key_ne hnx)]; exact L.n0 n hn
    · by_cases hnx : n = x
      · subst hnx; rw [px] at hn; injection hn with e1 _; rw [valV_put, if_pos rfl, e1]
      · rw [pe n hnx] at hn; rw [valV_put, if_neg (key_ne hnx)]; exact L.n1 n p r hn
    · by_cases hnx : n = x
      · subst hnx; exact L.b0 n (by rw [hx]; simp)
      · rw [pe n hnx] at hn; exact L.b0 n hn
    · by_cases hnx : n = x
      · subst hnx; rw [px] at hn; simp at hn
      · rw [pe n hnx] at hn; exact L.b1 n hn
    · have := length_putK k1 (Sum.inl x : Key) (V.int pre.length); have := L.l1; rw [List.length_append, List.length_singleton]; omega
    · have := L.l2; rw [List.length_append, List.length_singleton]; omega
theorem Looked.both {H₀ H : Hp} {a d1 d2 : Addr} {row pre : List Int} {k1 k2 : List (Key × V)} (L : Looked H₀ H a d1 d2 row pre k1 k2) (hd : H₀ d2 = none) (ne : d1 ≠ d2) {x p : Int} (hx : plc pre 0 x = [p]) :
    Looked H₀ (upd H d2 (.dK (putK k2 (Sum.inl x) (.bl true)))) a d1 d2 row (pre ++ [x]) k1 (putK k2 (Sum.inl x) (.bl true)) := by
  have pe : ∀ n : Int, n ≠ x → plc (pre ++ [x]) 0 n = plc pre 0 n := fun n hn => by rw [plc_snoc, if_neg (Ne.symm hn), List.append_nil]
  have px : plc (pre ++ [x]) 0 x = [p, (pre.length : Int)] := by rw [plc_snoc, if_pos rfl, hx]; rfl
  have hno := L.b0 x (by rw [hx]; simp)
  refine ⟨fun b o q => by rw [upd_ne (ne_of_none q hd)]; exact L.sm b o q, by rw [upd_ne ne]; exact L.h1, upd_same, fun n hn => ?_, fun n p' r hn => ?_, fun n hn => ?_, fun n hn => ?_, nd_putK _ L.nd hno, fun k hk => ?_, ?_, ?_⟩
  · by_cases hnx : n = x
    · subst hnx; rw [px] at hn; cases hn
    · rw [pe n hnx] at hn; exact L.n0 n hn
  · by_cases hnx : n = x
    · subst hnx; rw [px] at hn; injection hn with e1 _; rw [← e1]; exact L.n1 n p [] hx
    · rw [pe n hnx] at hn; exact L.n1 n p' r hn
  · by_cases hnx : n = x
    · subst hnx; rw [px] at hn; simp at hn
    · rw [pe n hnx] at hn; rw [valV_put, if_neg (key_ne hnx)]; exact L.b0 n hn
  · by_cases hnx : n = x
    · subst hnx; rw [valV_put, if_pos rfl]
    · rw [pe n hnx] at hn; rw [valV_put, if_neg (key_ne hnx)]; exact L.b1 n hn
  · rw [putK_new _ hno, List.map_append] at hk
    rcases List.mem_append.mp hk with h | h
    · exact L.ik k h
    · simp at h; exact ⟨x, h⟩
  · have := L.l1; rw [List.length_append, List.length_singleton]; omega
  · have := length_putK k2 (Sum.inl x : Key) (V.bl true); have := L.l2; rw [List.length_append, List.length_singleton]; omega
theorem keys_inl : ∀ (ks : List Key), (∀ k ∈ ks, ∃ n : Int, k = Sum.inl n) → ks.Nodup → ∃ l : List Int, ks = l.map Sum.inl ∧ l.Nodup
  | [], _, _ => ⟨[], rfl, List.nodup_nil⟩
  | k :: r, h, nd => by
    obtain ⟨n, rfl⟩ := h k (by simp)
    obtain ⟨h1, h2⟩ := List.nodup_cons.mp nd
    obtain ⟨l, e, nl⟩ := keys_inl r (fun k hk => h k (by simp [hk])) h2
    refine ⟨n :: l, by rw [e]; rfl, List.nodup_cons.mpr ⟨fun hm => h1 ?_, nl⟩⟩
    rw [e]; exact List.mem_map.mpr ⟨n, hm, rfl⟩
theorem looked_end {H₀ H : Hp} {a d1 d2 : Addr} {row : List Int} {k1 k2 : List (Key × V)} {s : Nat} (L : Looked H₀ H a d1 d2 row row k1 k2) (f : Fine s row) (hl : row.length = 2 * s) : k2.length = s ↔ RowOf s row := by
  obtain ⟨l, e, nl⟩ := keys_inl _ L.ik L.nd
  have el : l.length = k2.length := by rw [← List.length_map (f := (·.1)) (as := k2), e, List.length_map]
  rw [← el]
  refine fine_end f hl nl fun n => ?_
  constructor
  · intro hm
    have hk : (Sum.inl n : Key) ∈ k2.map (·.1) := by rw [e]; exact List.mem_map.mpr ⟨n, hm, rfl⟩
    rcases f.two n with q | ⟨p, q⟩ | ⟨p, q⟩
    · exact absurd hk (valV_not (L.b0 n (by rw [q]; simp)))
    · exact absurd hk (valV_not (L.b0 n (by rw [q]; simp)))
    · exact ⟨p, q⟩
  · rintro ⟨p, q⟩
    have hk := valV_in (L.b1 n (by rw [q]; simp))
    rw [e] at hk
    obtain ⟨m, hm, em⟩ := List.mem_map.mp hk
    have : m = n := by injection em
    rw [← this]; exact hm
def spLIR : Sp := fun vs H Q _ => ∃ (a : Addr) (row : List Int), vs = [.ref a] ∧ H a = some (.lst (row.map V.int)) ∧ row.length ≤ 1000 ∧ ∀ H', Same H H' → Q (.bl (isRowC row)) H'
theorem isRowC_false {row : List Int} (h : ¬ IsRow row) : isRowC row = false := by
  cases e : isRowC row with
  | false => rfl
  | true => exact absurd ((isRowC_iff row).mp e) h
theorem isRow_size {row : List Int} {s : Nat} (hl : row.length = 2 * s) : IsRow row → RowOf s row := by
  rintro ⟨s', _, _, h⟩
  have : s' = s := by have := h.1; omega
  subst this; exact h
def spFilled (n : Nat) : Sp := fun vs H Q _ => ∃ (a : Addr) (row : List Int) (c : Int), vs = [.ref a, .int n, .int c] ∧ H a = some (.lst (row.map V.int)) ∧ 2 * n ≤ row.length ∧ row.length ≤ 100 ∧
  (∀ H', Same H H' → (¬ ∃ r, Compl n row r) → Q .non H') ∧ (∀ l r H', Same H H' → (l = a ∨ H l = none) → H' l = some (.lst (r.map V.int)) → Compl n row r → Q (.ref l) H')
theorem round (sp d : Int) (h0 : 0 ≤ d) (h1 : d < sp) (p : Int) (hp : 0 ≤ p) (hq : p < sp) : ∃ j : Int, 0 ≤ j ∧ j < sp ∧ (j + d) % sp = p := by
  by_cases h : d ≤ p
  · refine ⟨p - d, by omega, by omega, ?_⟩
    have e : p - d + d = p := by omega
    rw [e]; exact Int.emod_eq_of_lt hp hq
  · refine ⟨p + sp - d, by omega, by omega, ?_⟩
    have e : p + sp - d + d = p + sp := by omega
    rw [e, Int.add_emod_right]; exact Int.emod_eq_of_lt hp hq
theorem map_zero (n : Nat) : (List.replicate n (0 : Int)).map V.int = (List.replicate n (V.int 0)) := by
  induction n with
  | zero => rfl
  | succ n ih => rw [List.replicate_succ, List.replicate_succ, List.map_cons, ih]
theorem mod7 (z : Int) : ∃ s : Nat, s ∈ [1, 4, 5, 8, 9] ∧ atI (([1, 4, 5, 8, 9, 4, 5] : List Int).map V.int) (z % 7) = some (V.int s) := by
  have h0 := Int.emod_nonneg z (b := 7) (by decide)
  have h1 := Int.emod_lt_of_pos z (b := 7) (by decide)
  generalize z % 7 = r at h0 h1
  have : r = 0 ∨ r = 1 ∨ r = 2 ∨ r = 3 ∨ r = 4 ∨ r = 5 ∨ r = 6 := by omega
  rcases this with rfl | rfl | rfl | rfl | rfl | rfl | rfl
  · exact ⟨1, by decide, rfl⟩
  · exact ⟨4, by decide, rfl⟩
  · exact ⟨5, by decide, rfl⟩
  · exact ⟨8, by decide, rfl⟩
  · exact ⟨9, by decide, rfl⟩
  · exact ⟨4, by decide, rfl⟩
  · exact ⟨5, by decide, rfl⟩
def spSmall (K : PySem.W.Frag) : Sp := fun vs H Q _ => ∃ (a : Addr) (ns : List Int) (k : Nat), vs = [.ref a, .int k] ∧ SqL K H a (ns.map V.int) ∧
  ∀ l s row H', s ∈ [1, 4, 5, 8, 9] → RowOf s row → Same H H' → H l = none → H' l = some (.lst (row.map V.int)) → Q (.ref l) H'
def Prs (m : Int) (H : Hp) (xs : List V) : Prop := ∀ x ∈ xs, ∃ (p : Addr) (o u : Int), x = .ref p ∧ H p = some (.tup [.int o, .int u]) ∧ 1 ≤ o ∧ o ≤ m ∧ 1 ≤ u ∧ u ≤ m
theorem Prs.same {m : Int} {H H' : Hp} {xs : List V} (h : Prs m H xs) (s : Same H H') : Prs m H' xs := fun x hx => by
  obtain ⟨p, o, u, e, e2, r⟩ := h x hx
  exact ⟨p, o, u, e, s _ _ e2, r⟩
theorem Prs.upd {m : Int} {H : Hp} {xs ys zs : List V} {l : Addr} (h : Prs m H xs) (hl : H l = some (.lst ys)) : Prs m (upd H l (.lst zs)) xs := fun x hx => by
  obtain ⟨p, o, u, e, e2, r⟩ := h x hx
  exact ⟨p, o, u, e, by rw [upd_ne (ne_of e2 hl (by intro z; cases z))]; exact e2, r⟩
theorem Prs.snoc {m : Int} {H : Hp} {xs : List V} {p : Addr} {o u : Int} (h : Prs m H xs) (e : H p = some (.tup [.int o, .int u])) (h1 : 1 ≤ o) (h2 : o ≤ m) (h3 : 1 ≤ u) (h4 : u ≤ m) : Prs m H (xs ++ [.ref p]) := fun x hx => by
  rcases List.mem_append.mp hx with hx | hx
  · exact h x hx
  · simp at hx; exact ⟨p, o, u, hx, e, h1, h2, h3, h4⟩
theorem Prs.app {m : Int} {H : Hp} {xs ys : List V} (h : Prs m H xs) (h' : Prs m H ys) : Prs m H (xs ++ ys) := fun x hx => (List.mem_append.mp hx).elim (h x) (h' x)
theorem Prs.nil {m : Int} {H : Hp} : Prs m H [] := fun x hx => by simp at hx
theorem same_upd {H H' : Hp} {l : Addr} {o : HO} (s : Same H H') (h : H l = none) : Same H (upd H' l o) := fun b u e => by rw [upd_ne (ne_of_none e h)]; exact s b u e
end
end Law
namespace Law
open PySem L2 SA
def spLaw (K : PySem.W.Frag) : Sp := fun vs H Q _ => ∃ (a : Addr) (ns : List Int), vs = [.ref a] ∧ SqL K H a (ns.map V.int) ∧ ns.length ≤ 63 ∧ ∀ H', Q (.bl true) H'
theorem kit_same {K : PySem.W.Frag} {T : String} : PySem.W.kitOne K (.type T) (.type T) = some true := by
  unfold PySem.W.kitOne
  rw [if_pos (beq_self_eq_true _)]
end Law
namespace L2
open PySem PySem.Spec PyProof.Rows
mutual
theorem DH.same {H H' : Hp} (s : Same H H') {v : V} {d : PyData} (h : DH H v d) : DH H' v d := by
  cases h with
  | int i => exact .int i
  | lst e hs => exact .lst (s _ _ e) (DHs.same s hs)
  | tup e hs => exact .tup (s _ _ e) (DHs.same s hs)
theorem DHs.same {H H' : Hp} (s : Same H H') {xs : List V} {ds : List PyData} (h : DHs H xs ds) : DHs H' xs ds := by
  cases h with
  | nil => exact .nil
  | cons a b => exact .cons (DH.same s a) (DHs.same s b)
end
def rLenOf (K : PySem.W.Frag) : List V → Hp → VK → Prop := fun xs H Q => ∃ p ys, xs = [.ref p] ∧ (SqL K H p ys ∨ SqT K H p ys) ∧ Q (.int (ys.length : Nat)) H
theorem call_len_seqK {X : Cx} {K : PySem.W.Frag} (h : X.K = K) : CallR X (.builtin "len") (rLenOf K) := by subst h; exact call_len_seq
def TL (H : Hp) : List V → List (List Int) → Prop := Paired fun x t => ∃ p, x = V.ref p ∧ H p = some (.tup (t.map V.int))
theorem TL.len {H : Hp} {xs : List V} {ts : List (List Int)} (h : TL H xs ts) : xs.length = ts.length := Paired.length h
theorem TL.same {H H' : Hp} {xs : List V} {ts : List (List Int)} (h : TL H xs ts) (s : Same H H') : TL H' xs ts := Paired.mapP h fun _ _ ⟨p, e, q⟩ => ⟨p, e, s _ _ q⟩
theorem TL.upd {H : Hp} {xs : List V} {ts : List (List Int)} {l : Addr} {o : HO} (h : TL H xs ts) (hl : ∀ ys, H l ≠ some (.tup ys)) : TL (upd H l o) xs ts := Paired.mapP h fun _ _ ⟨p, e, q⟩ => ⟨p, e, by rw [upd_ne (fun z => hl _ (z ▸ q))]; exact q⟩
theorem TL.snoc {H : Hp} {xs : List V} {ts : List (List Int)} {p : Addr} {t : List Int} (h : TL H xs ts) (e : H p = some (.tup (t.map V.int))) : TL H (xs ++ [.ref p]) (ts ++ [t]) := Paired.snoc h ⟨p, rfl, e⟩
theorem TL.set {H : Hp} {xs : List V} {ts : List (List Int)} {p : Addr} {t : List Int} (h : TL H xs ts) (e : H p = some (.tup (t.map V.int))) : ∀ i : Nat, TL H (xs.set i (.ref p)) (ts.set i t) := by
  unfold TL at h ⊢
  induction h with
  | nil => intro i; exact .nil
  | cons a b ih =>
    intro i
    cases i with
    | zero => exact .cons ⟨p, rfl, e⟩ b
    | succ i => exact .cons a (ih i)
theorem TL.get {H : Hp} {xs : List V} {ts : List (List Int)} {i : Nat} {x : V} (h : TL H xs ts) (e : xs[i]? = some x) : ∃ p t, x = V.ref p ∧ H p = some (.tup (t.map V.int)) ∧ ts[i]? = some t := by
  unfold TL at h
  induction h generalizing i with
  | nil => simp at e
  | cons a b ih =>
    cases i with
    | zero => simp at e; subst e; obtain ⟨p, rfl, q⟩ := a; exact ⟨p, _, rfl, q, rfl⟩
    | succ i => simp at e; obtain ⟨p, t, h1, h2, h3⟩ := ih e; exact ⟨p, t, h1, h2, by simpa using h3⟩
end L2
namespace Law
open PySem L2 SA
structure Firsts (H : Hp) (d : Addr) (pre : List Int) (k1 : List (Key × V)) : Prop where
  h1 : H d = some (.dK k1)
  n0 : ∀ n : Int, plc pre 0 n = [] → valV k1 (Sum.inl n : Key) = none
  n1 : ∀ (n p : Int), plc pre 0 n = [p] → valV k1 (Sum.inl n : Key) = some (.int p)
  ln : k1.length ≤ pre.length
end Law
namespace L2
open PySem PySem.Spec PyProof.Rows
section
variable {X : Cx}
def rIndex (K : PySem.W.Frag) : V → List V → Hp → VK → Prop := fun x vs H Q => ∃ p xs y j z, x = .ref p ∧ vs = [y] ∧ SqL K H p xs ∧ flatV y = true ∧ xs.all flatV = true ∧ xs[j]? = some z ∧ eqV z y = true ∧ (∀ m : Nat, m < j → ∀ z', xs[m]? = some z' → eqV z' y = false) ∧ Q (.int j) H
theorem eqU_at {y : V} {xs : List V} {its : List Value} (r : Vals xs its) (fs : xs.all flatV = true) {j : Nat} {z : V} (h : xs[j]? = some z) (hj : j < its.length) : eqU y its[j] = eqV z y := by
  obtain ⟨u, hu, ru⟩ := r.get h
  rw [List.getElem?_eq_getElem hj] at hu
  cases hu
  exact eqU_of ru (List.all_eq_true.mp fs z (List.mem_of_getElem? h))
theorem mt_index : MtM X "list.index" (rIndex X.K) := by
  intro pins s σ H x vs v us Q I rx rv h
  obtain ⟨p, xs, y, j, z, rfl, rfl, hq, fy, fs, hj, hit, hno, q⟩ := h
  cases rx
  obtain ⟨u, rfl, ru⟩ := rv.one
  obtain ⟨its, r, pl, hz⟩ := I.list hq
  have hlen := r.length
  have hjl : j < its.length := by rw [← hlen]; exact (List.getElem?_eq_some_iff.mp hj).1
  obtain ⟨⟨cls, dd, data, sl⟩, ho, hc, n, hd⟩ := pl.isList
  simp only at hc hd
  subst hc hd
  have hn := line63
  refine call_meets F.slot_list_index ⟨_, ho, rfl⟩ F.entry_list_index (F.args_list_index_2 _ _)
    (SeqAt.list_indexAt p its.toArray n dd sl u (eqU y) j (by rw [List.size_toArray]; exact hjl) (by omega) ?_ ?_) ⟨ho, fun y' hy => mem_eqAt ru fy r fs y' (by simpa using hy), ?_⟩
  · show eqU y its[j] = true
    rw [eqU_at r fs hj hjl]; exact hit
  · intro m hm hlt
    have hm2 : m < its.length := by simpa using hm
    show eqU y its[m] = false
    have hg : xs[m]? = some xs[m] := List.getElem?_eq_getElem (by omega)
    rw [eqU_at r fs hg hm2]
    exact hno m hlt _ hg
  · exact ⟨.int j, H, I.tok _, ⟨_, rfl⟩, q⟩
def rCount (K : PySem.W.Frag) : V → List V → Hp → VK → Prop := fun x vs H Q => ∃ p xs y, x = .ref p ∧ vs = [y] ∧ SqL K H p xs ∧ flatV y = true ∧ xs.all flatV = true ∧ Q (.int (xs.countP fun z => eqV z y : Nat)) H
theorem countP_eqU {y : V} : ∀ {xs : List V} {its : List Value}, Vals xs its → xs.all flatV = true → its.countP (eqU y) = xs.countP fun z => eqV z y
  | _, _, .nil, _ => rfl
  | z :: xs, u :: us, .cons r t, f => by
    rw [List.all_cons, Bool.and_eq_true] at f
    rw [List.countP_cons, List.countP_cons, countP_eqU t f.2, eqU_of r f.1]
theorem mt_count : MtM X "list.count" (rCount X.K) := by
  intro pins s σ H x vs v us Q I rx rv h
  obtain ⟨p, xs, y, rfl, rfl, hq, fy, fs, q⟩ := h
  cases rx
  obtain ⟨u, rfl, ru⟩ := rv.one
  obtain ⟨its, r, pl, hz⟩ := I.list hq
  obtain ⟨⟨cls, dd, data, sl⟩, ho, hc, n, hd⟩ := pl.isList
  simp only at hc hd
  subst hc hd
  refine call_meets F.slot_list_count ⟨_, ho, rfl⟩ F.entry_list_count (F.args_list_count_2 _ _)
    (SeqAt.list_countAt p its.toArray n dd sl u (eqU y)) ⟨ho, fun y' hy => mem_eqAt ru fy r fs y' (by simpa using hy), ?_⟩
  have e : its.toArray.toList.countP (eqU y) = xs.countP fun z => eqV z y := countP_eqU r fs
  rw [e]
  exact ⟨.int _, H, I.tok _, ⟨_, rfl⟩, q⟩
end
end L2
namespace L2
open PySem PySem.Spec PySem.Calls PyProof.Rows PySem.W PySem.Builtin PySem.Builtin.Getset_descriptor
structure XCls (K : PySem.W.Frag) (C : Addr) : Prop where
  ga : findIn K (.ref C) "__getattribute__" = some (some (.builtin "BaseException.__getattribute__"))
  gg : findIn K (.ref C) "__getattr__" = some none
  cl : findIn K (.ref C) "__class__" = some (some (.builtin "object.__class__"))
  mo : mroIn K C (.type "object") = some true
  mb : mroIn K C (.type "BaseException") = some true
  is : isClsIn K C = true
theorem isCls_at {K : PySem.W.Frag} {C : Addr} (h : isClsIn K C = true) : ∃ o, K.lookup C = some o ∧ ∃ cd, o.data = .cls cd := by
  unfold isClsIn clsIn at h
  split at h
  · rename_i c d cd sl ho
    exact ⟨_, ho, cd, rfl⟩
  · cases h
def InCls (h : Heap) (x C : Addr) : Prop := ∃ ox, h.get? x = some ox ∧ ox.cls = .ref C
theorem InCls.type {M : Model} {h : Heap} {x C : Addr} (I : InCls h x C) : Looks M h (typeOf (.ref x)) (.ref C) := by
  obtain ⟨ox, e, c⟩ := I
  exact c ▸ (Looks.ld e).andThen .now
section
variable {prog : Program} {w : World} {A : Around} {E : Value → Shared → Prop} {s : Shared} {K : PySem.W.Frag} {x D : Addr}
theorem exc_get {R : Result → Shared → Prop} {tp : Value} (X : K.In s.heap) (I : InCls s.heap x D) (hm : mroIn K D (.type "object") = some true) (hq : R (.ok (.ret (.ref D))) s) :
    codeAny (model prog w) A (.call (.builtin "getset_descriptor.__get__") ⟨[.builtin "object.__class__", .ref x, tp], []⟩) R s := by
  obtain ⟨hh, gg, dr, tk, os⟩ := s
  have l0 := I.type (M := model prog w); have l1 := looks_mroIn (M := model prog w) X hm
  refine codeAny_call_builtin KF.slot_gs.plain KF.entry_gs (KF.slot_gs.check _ _ _ _ _ _ _ _ KF.type_class (KF.args_gs _ _ _) ?_)
  unfold Builtin.«getset_descriptor.__get__» descrGet; rw [dga_obj]
  refine wpAny_bind (wpAny_pure ?_); unfold descrGetter descrCheckInstance descrNameAndClass isInstance; simp only [KF.owner_class]
  repeat lk
  refine ⟨Code.quiet_builtin _ (by decide +kernel), codeAny_builtin KF.entry_class ?_⟩; unfold Builtin.«object.__class__» shownTypeOf
  repeat lk
  exact hq
theorem exc_entry {tk : Tok} {Q : Fin → Shared → Prop} (X : K.In s.heap) (I : InCls s.heap x D) (c : XCls K D) (hq : Q (.done (.ret (.ref D))) s) :
    wpAny (model prog w) A (Builtin.«object.__getattribute__» ⟨[.ref x, .str "__class__" tk], []⟩) Q E s := by
  obtain ⟨h, g, d, t, os⟩ := s
  have L0 := I.type (M := model prog w)
  have L1 := looks_findIn (M := model prog w) X c.cl
  have hT5 : (⟨h, g, d, t, os⟩ : Shared).TypeIs (.builtin "object.__class__") "getset_descriptor" := F.typeOf_object_class
  have f5 := F.typeOf_object_class
  have f6 := F.slot_gs_get.lookup
  have f7 := F.slot_gs_set.lookup
  repeat (any_goals (first | assumption | with_reducible refine Looks.at (by assumption) ?_ | wp_step))
  refine exc_get X I c.mo ?_
  repeat (any_goals (first | assumption | wp_step))
theorem exc_check {M : Model} {nameV : Value} {Q : Unit → Shared → Prop} (X : K.In s.heap) (I : InCls s.heap x D) (c : XCls K D) (hq : Q () s) :
    wpAny M A (checkBuiltinCall "BaseException.__getattribute__" ⟨[.ref x, nameV], []⟩) Q E s := by
  have hk : builtinKind "BaseException.__getattribute__" = some .slot := by decide +kernel
  have hsplit : splitId "BaseException.__getattribute__" = some ("BaseException", "__getattribute__") := by decide +kernel
  have ha := F.args_bexc_ga (.ref x) nameV
  obtain ⟨h, g, d, t, os⟩ := s
  have L0 := I.type (M := M)
  have L1 := looks_mroIn (M := M) X c.mb
  simp only [checkBuiltinCall, hk, hsplit]
  refine wpAny_bind ?_
  · unfold isInstance
    repeat (first | with_reducible refine Looks.at (by assumption) ?_ | wp_step)
    exact hq
theorem exc_class {Q : Option Value → Shared → Prop} (X : K.In s.heap) (I : InCls s.heap x D) (c : XCls K D) (hq : Q (some (.ref D)) { s with toks := s.toks + 1 }) : wpAny (model prog w) A (getAttr? (.ref x) "__class__") Q E s := by
  obtain ⟨h, g, d, t, os⟩ := s
  have L0 := I.type (M := model prog w)
  have L1 := looks_findIn (M := model prog w) X c.ga
  have L2 := looks_findIn (M := model prog w) X c.gg
  have f3 := F.attrBase_ValueError.ga.bind (.ref x)
  have hx2 : (Value.builtin "BaseException.__getattribute__" == Value.builtin "object.__getattribute__") = false := by decide +kernel
  have hx1 : (onTheHeap (Value.ref D) && Value.builtin "BaseException.__getattribute__" == Value.builtin "object.__getattribute__") = false := by rw [hx2]; rfl
  unfold getAttr? getAttrBy?
  repeat (any_goals (first | assumption | with_reducible refine Looks.at (by assumption) ?_ | wp_step))
  show codeAny (model prog w) A (Code.call (Value.builtin "BaseException.__getattribute__") ⟨[.ref x, .str "__class__" t], []⟩) _ _
  refine codeAny_call_builtin F.attrBase_ValueError.ga.plain F.entry_bexc_ga (exc_check (s := ⟨h, g, d, t + 1, os⟩) X I c (exc_entry (s := ⟨h, g, d, t + 1, os⟩) X I c ?_))
  repeat (any_goals (first | assumption | wp_step))
theorem kitx_exc (c : XCls K D) : KitX K (.ref x) (.ref D) (fun h => InCls h x D) where
  ty := fun _ _ _ I => I.type
  it := fun _ _ X _ => by
    intro A' Q' E' s' k q
    obtain ⟨o, hl, cd, hd⟩ := isCls_at c.is
    unfold isType loadHead
    refine wpAny_bind (wpAny_loadPart (k _ _ (X _ _ hl)) (wpAny_pure ?_))
    rw [hd]; exact q
  ne := fun h tp dd its n sl X htp => by
    refine Bool.eq_false_iff.mpr fun q => ?_
    have e : D = tp := Value.ref.inj (beq_iff_eq.mp q)
    subst e
    obtain ⟨o, hl, cd, hd⟩ := isCls_at c.is
    have z := (X _ _ hl).symm.trans htp
    cases z
    cases hd
  ca := fun X I k => exc_class X I c k
end
end L2
namespace L2
open PySem PySem.Spec PySem.Calls PyProof.Rows PySem.W
def CXE (P : Program) (w : World) : CXT := fun outer H s E e s' => ∃ (a C : Addr) (H' : Hp) (B : Heap) (a0 : Value), e = .ref a ∧ s'.os = s.os ∧ AllBare s'.gens ∧ Heap.FlyingW B outer a (.ref C) a0 s'.heap ∧
  Un (frs outer) [] H H' s.heap s'.heap ∧ HOk P w H' s'.heap ∧ s.heap.get? a = none ∧ H' a = none ∧
  (∀ b o, s'.heap.get? b = some o → b ∉ frs outer → (H' b ≠ none ∨ s.heap.get? b ≠ none) → B.get? b = some o) ∧ E (.ref C) none H'
theorem objok_at {P : Program} {w : World} {H : Hp} {h : Heap} {a : Addr} {o : HO} (x : ObjOk P w H h a o) : ∃ ob, h.get? a = some ob := by
  cases o with
  | lst xs => obtain ⟨_, _, _, _, e⟩ := x; exact ⟨_, e⟩
  | tup xs => obtain ⟨_, _, _, o, e, _⟩ := x; exact ⟨_, e⟩
  | dK kvs => obtain ⟨_, _, _, _, o, _, _, e, _⟩ := x; exact ⟨_, e⟩
  | dT kvs => obtain ⟨_, _, _, _, o, _, _, e, _⟩ := x; exact ⟨_, e⟩
  | set S n => obtain ⟨o, _, _, _, e, _⟩ := x; exact ⟨_, e⟩
  | ins C dx fs => obtain ⟨_, _, _, e, _⟩ := x; exact ⟨_, e⟩
  | own y => exact x
  | xd fs => obtain ⟨_, ⟨_, _, _, e, _⟩, _⟩ := x; exact ⟨_, e⟩
  | rng lo hi => obtain ⟨_, _, _, e⟩ := x; exact ⟨_, e⟩
  | frz ob u => obtain ⟨e, _⟩ := x; exact ⟨_, e⟩
  | tbl ps => exact ⟨_, (show h.get? a = some _ from x)⟩
  | met f y => exact ⟨_, (show h.get? a = some _ from x)⟩
  | ext φ => obtain ⟨_, e, _⟩ := x; exact e
structure DefCx (X : Cx) : Prop where
  ex : X.ex = []
  stk : X.stack = X.env :: X.outer
  fr : X.env.frame = some X.env.locals
section
variable {X : Cx} {pins : List (Addr × Obj)} {σ : St} {H1 H' : Hp} {s1 s2 s3 : Shared} {B : Heap} {a C : Addr} {a0 : Value} {E : XK}
theorem frs_stk (d : DefCx X) : frs X.stack = X.env.locals :: X.fs := by
  rw [d.stk]; unfold frs; rw [List.filterMap_cons, d.fr]; rfl
theorem cxe_mk (d : DefCx X) (I : Inv X pins σ H1 s1) (os : s3.os = s1.os) (bare : AllBare s3.gens) (U : Un (frs X.stack) [] H1 H' s1.heap s2.heap) (ok : HOk X.prog X.w H' s2.heap) (na : s1.heap.get? a = none) (Ha : H' a = none)
    (cov : ∀ b o, s2.heap.get? b = some o → b ∉ frs X.stack → (H' b ≠ none ∨ s1.heap.get? b ≠ none) → B.get? b = some o) (fun2 : s2.heap.FunFrames B X.stack)
    (fl : Heap.FlyingW B X.outer a (.ref C) a0 s3.heap) (up : s2.heap.UpToSlots s3.heap) (hE : E (.ref C) none H') : CXE X.prog X.w X.outer X.H₀ X.s₀ E (.ref a) s3 := by
  have nl : ∀ b o, X.s₀.heap.get? b = some o → b ≠ X.env.locals := fun b o q => Nat.ne_of_lt (Nat.lt_of_lt_of_le (Heap.lt_size q) I.ok.above)
  have ns : ∀ b, b ∉ X.fs → b ≠ X.env.locals → b ∉ frs X.stack := fun b h1 h2 h3 => by
    rw [frs_stk d] at h3
    rcases List.mem_cons.mp h3 with z | z
    · exact h2 z
    · exact h1 z
  have nx : ∀ b : Addr, b ∉ X.ex := fun b => by rw [d.ex]; simp
  have n0 : ∀ b : Addr, b ∉ ([] : List Addr) := fun b => by simp
  have U1 := I.base
  have on : ∀ b o, s2.heap.get? b = some o → b ∉ frs X.stack → (H' b ≠ none ∨ s1.heap.get? b ≠ none) → s3.heap.get? b = some o := fun b o q h1 h2 => fl.1 b o (cov b o q h1 h2)
  have tf : ∀ b, H' b ≠ none → b ∉ frs X.stack := fun b hb hm => by
    obtain ⟨o, ho, _⟩ := (fun2.mem hm).2
    have hn1 : H1 b = none := I.stkFree b hm
    obtain ⟨_, o1, ho1, _⟩ := (I.stack).mem hm
    exact hb (U.free b o1 ho1 hn1 (n0 b))
  have lost : ∀ b o, X.s₀.heap.get? b = some o → ∃ o1, s1.heap.get? b = some o1 := fun b o q => U1.there b o q (nx b)
  refine ⟨a, C, H', B, a0, rfl, os.trans I.os, bare, fl, ⟨fun b o q hn hb _ => ?_, fun b o q hn hb _ => ?_, fun b o q hn _ => ?_, fun b o q _ => ?_, fun b xs q => U.tups b xs (U1.tups b xs q), fun b o u q => U.frzs b o u (U1.frzs b o u q), fun b ps q => ?_⟩, fun b u q => ?_, ?_, Ha, fun b o q hb hh => ?_, hE⟩
  · have e1 := U1.keep b o q hn hb (nx b)
    have e2 := U.keep b o e1 (U1.free b o q hn (nx b)) (ns b hb (nl b o q)) (n0 b)
    exact on b o e2 (ns b hb (nl b o q)) (.inr (by rw [e1]; simp))
  · obtain ⟨sl, e1⟩ := U1.slot b o q hn hb (nx b)
    have hm : b ∈ frs X.stack := by rw [frs_stk d]; exact List.mem_cons_of_mem _ hb
    obtain ⟨sl2, e2⟩ := U.slot b _ e1 (U1.free b o q hn (nx b)) hm (n0 b)
    obtain ⟨_, o2, ho2, hnf⟩ := fun2.mem hm
    rw [e2] at ho2
    cases ho2
    obtain ⟨sl3, e3⟩ := up b _ e2 hnf
    exact ⟨sl3, e3⟩
  · obtain ⟨o1, e1⟩ := lost b o q
    exact U.free b o1 e1 (U1.free b o q hn (nx b)) (n0 b)
  · obtain ⟨o1, e1⟩ := lost b o q
    obtain ⟨o2, e2⟩ := U.there b o1 e1 (n0 b)
    by_cases hm : b ∈ frs X.stack
    · obtain ⟨_, o3, ho3, hnf⟩ := fun2.mem hm
      rw [e2] at ho3
      cases ho3
      obtain ⟨sl3, e3⟩ := up b _ e2 hnf
      exact ⟨_, e3⟩
    · exact ⟨o2, on b o2 e2 hm (.inr (by rw [e1]; simp))⟩
  · obtain ⟨m1, e1⟩ := U1.tbls b ps q
    obtain ⟨m2, e2⟩ := U.tbls b _ e1
    exact ⟨m1 ++ m2, by rw [e2, Array.append_assoc]⟩
  · refine (ok b u q).stay (fun c v hc z => ?_) (fun _ z => z) fun _ _ z => z
    have hc' : H' c ≠ none := by
      rcases hc with rfl | hc
      · rw [q]; simp
      · rw [hc]; simp
    exact on c v z (tf c hc') (.inl hc')
  · cases e : X.s₀.heap.get? a with
    | none => rfl
    | some o => obtain ⟨o1, e1⟩ := lost a o e; rw [na] at e1; cases e1
  · have key : ∃ o2, s2.heap.get? b = some o2 ∧ b ∉ frs X.stack ∧ (H' b ≠ none ∨ s1.heap.get? b ≠ none) := by
      rcases hh with h | h
      · have : ∃ o2, s2.heap.get? b = some o2 := by
          cases eH : H' b with
          | none => exact absurd eH h
          | some u =>
            have lt := (ok b u eH).lt
            cases e2 : s3.heap.get? b with
            | none => rw [e2] at q; cases q
            | some o3 =>
              have := ok b u eH
              obtain ⟨o2, e⟩ := objok_at this
              exact ⟨o2, e⟩
        obtain ⟨o2, e2⟩ := this
        exact ⟨o2, e2, tf b h, .inl h⟩
      · cases e0 : X.s₀.heap.get? b with
        | none => exact absurd e0 h
        | some o0 =>
          obtain ⟨o1, e1⟩ := lost b o0 e0
          obtain ⟨o2, e2⟩ := U.there b o1 e1 (n0 b)
          exact ⟨o2, e2, ns b hb (nl b o0 e0), .inr (by rw [e1]; simp)⟩
    obtain ⟨o2, e2, k1, k2⟩ := key
    have e3 := on b o2 e2 k1 k2
    rw [e3] at q
    cases q
    exact cov b o e2 k1 k2
theorem made_leaves (d : DefCx X) (hf : X.A.frames = some X.stack) (I : Inv X pins σ H1 s1) {h' : Heap} {vs : List Value} (hx : Heap.MadeExcOf s1.heap h' a (.ref C) vs) (hE : E (.ref C) none H1) {M : Model} {E2 : Value → Shared → Prop} :
    wpAny M X.A (leaving X.env (.ref a)) (fun _ s'' => CXE X.prog X.w X.outer X.H₀ X.s₀ E (.ref a) s'') E2 { s1 with heap := h' } := by
  have hin : ∀ env ∈ X.stack, ∀ b, env.frame = some b → b ∈ frs X.stack := fun env he b hb => List.mem_filterMap.mpr ⟨env, he, hb⟩
  have ff : s1.heap.FunFrames (hideAll s1.heap (frs X.stack)) X.stack := funFrames_hide I.stack hin
  have hfr : X.A.frames = some (X.env :: X.outer) := by rw [hf, d.stk]
  have ff' := ff
  rw [d.stk] at ff'
  have hl := ff'
  rw [← d.stk] at hl
  refine wpAny_leaves_madeW (base := hideAll s1.heap (frs X.stack)) (h := s1.heap) hfr d.fr (fun b o q => of_hideAll _ q) (by rw [d.stk] at ff ⊢; exact ff) hx fun h'' t x1 x2 x3 x4 => ?_
  have Ha : H1 a = none := by
    cases e : H1 a with
    | none => rfl
    | some u => obtain ⟨ob, e2⟩ := objok_at (I.hok a u e); rw [hx.new] at e2; cases e2
  refine cxe_mk (s2 := { s1 with heap := h' }) d I rfl I.bare (Un.kept hx.keeps) (I.hok.kept hx.keeps) hx.new Ha (fun b o q hb hh => ?_) (ff.of_keeps fun b o q _ => ⟨o, hx.keeps b o q, rfl⟩) x1 x4 hE
  have key : ∃ o1, s1.heap.get? b = some o1 := by
    rcases hh with h | h
    · cases e : H1 b with
      | none => exact absurd e h
      | some u => exact objok_at (I.hok b u e)
    · cases e : s1.heap.get? b with
      | none => exact absurd e h
      | some o1 => exact ⟨o1, rfl⟩
  obtain ⟨o1, e1⟩ := key
  have q' : h'.get? b = some o := q
  rw [hx.keeps b o1 e1] at q'
  cases q'
  exact hideAll_get _ e1 hb
theorem flies_on (d : DefCx X) (hf : X.A.frames = some X.stack) (I : Inv X pins σ H1 s1) {e : Value} {s' : Shared} (h : CXE X.prog X.w X.stack H1 s1 E e s') {M : Model} {E2 : Value → Shared → Prop} :
    wpAny M X.A (leaving X.env e) (fun _ s'' => CXE X.prog X.w X.outer X.H₀ X.s₀ E e s'') E2 s' := by
  obtain ⟨a, C, H', B, a0, rfl, os, bare, fl, U, ok, na, Ha, cov, hE⟩ := h
  have hfr : X.A.frames = some (X.env :: X.outer) := by rw [hf, d.stk]
  have ff := fl.2.2.1
  refine wpAny_leaves_onW (base := B) hfr d.fr (by rw [d.stk] at fl; exact fl) fun h'' x1 x2 => ?_
  exact cxe_mk (s2 := s') (s3 := { s' with heap := h'' }) d I os bare U ok na Ha cov ff x1 x2 hE
end
end L2
namespace L2
open PySem PySem.Spec PySem.Calls PyProof.Rows PySem.W
abbrev bmV : List Value := [.type "ValueError", .type "Exception", .type "BaseException", .type "object"]
abbrev newV : String := "ValueError.__new__"
theorem exc_obj {K : PySem.W.Frag} {h : Heap} {C : Addr} {bmB : List Value} {newId : String} (X : K.In h) (q : excIn K C bmB newId = true) :
    ∃ bm N nm qn bs hdct sn sub ab col dd k0 k1 k2 k3 k5 mN, K.lookup C = some (excClassObj nm qn C N bs bm hdct sn sub ab col dd k0 k1 k2 k3 k5 newId) ∧ h.Ns N mN ∧ mN "__init__" = none ∧ OwnTail h bmB bm ∧ nsOkIn K N = true ∧ nsIn K N "__init__" = some none ∧ tailIn K bmB bm = true := by
  unfold excIn at q
  split at q
  case h_2 => cases q
  rename_i dd cd sl ho
  split at q
  case h_2 => cases q
  rename_i C' bm k0 k1 k2 k3 n k5 hm hs
  simp only [Bool.and_eq_true, beq_iff_eq, Bool.not_eq_true'] at q
  obtain ⟨⟨⟨⟨⟨rfl, rfl⟩, hdel⟩, ht⟩, hok⟩, hni⟩ := q
  obtain ⟨nm, bs, mro, ns, qn, hd, sn, sub, ab, col, del⟩ := cd
  dsimp only at hm hdel hok hni
  subst hm hdel
  obtain ⟨l⟩ := sl
  have hsl : l = [k0, k1, k2, k3, some (.builtin n), k5] := hs
  subst hsl
  exact ⟨bm, ns, nm, qn, bs, hd, sn, sub, ab, col, dd, k0, k1, k2, k3, k5, _, ho, .of_isNs (isNs_of_in X hok), nsMap_none_of_in X hok hni, tail_of_in X ht, hok, hni, ht⟩
def Throws (X : Cx) (E : XK) : Prop := ∀ (pins : List (Addr × Obj)) (σ : St) (H : Hp) (s : Shared) (h' : Heap) (a C : Addr) (vs : List Value), Inv X pins σ H s → Heap.MadeExcOf s.heap h' a (.ref C) vs → E (.ref C) none H → X.xe (.ref a) { s with heap := h' }
section
variable {P : Program} {w : World} {K : PySem.W.Frag} {mg : Str → Option Value} {base : Heap} {N : List Str} {qual : Str} {scope : Scope} {f : Addr} {cd : Value} {A : Around} {outer : List Env} {s : Shared} {H : Hp} {E : XK}
theorem throws_def : Throws (cxOf (CXE P w) P w K mg base N qual scope f cd A outer s H E) E := fun _ _ _ _ _ _ _ _ I hx hE => made_leaves ⟨rfl, rfl, rfl⟩ I.ok.frames I hx hE
theorem passes_def : Passes (CXE P w) (cxOf (CXE P w) P w K mg base N qual scope f cd A outer s H E) E := fun _ _ _ _ _ _ I h => flies_on ⟨rfl, rfl, rfl⟩ I.ok.frames I h
end
section
variable {X : Cx} {x : Str} {C : Addr} {E : XK} {e₀ : Expr} {te : TE} {np cpos pos : Pos}
def tRaise (C : Addr) (E : XK) (te : TE) : TS := fun _ σ H => te σ H fun _ H1 => E (.ref C) none H1
theorem ps_raise (hT : Throws X E) (q : excIn X.K C bmV newV = true) (hm : X.mg x = some (.ref C)) (hg : Gl X x) (hc : X.calm = true) (he : PE X e₀ te)
    (hs : starEach [e₀] X.env = [(false, eval e₀ X.env)] := by rfl) (hd : (x == ("__debug__" : Str)) = false := by decide) : PS X (.Raise (some (.Call (.Name x np) [e₀] [] cpos)) none pos) (tRaise C E te) := by
  intro pins s σ H D I h
  obtain ⟨tl, N, nm, qn, bs, hdct, sn, sub, ab, col, dd, k0, k1, k2, k3, k5, mN, hC, hN, hni, T, hok, hnn, ht⟩ := exc_obj I.ok.mod.kin q
  refine wpAny_Raise_call_subT (C := C) (nm := nm) (q := qn) (N := N) (bs := bs) (bm := tl) (hdct := hdct) (sn := sn) (sub := sub) (ab := ab) (col := col) (dd := dd) (k0 := k0) (k1 := k1) (k2 := k2) (k3 := k3) (k5 := k5) (mN := mN)
    F.excBase_ValueError (T.hasType F.excBase_ValueError.hasBase) (I.ok.hd hc) (by rw [hs]; rfl) hni (ld_glob I hg hm ⟨rfl, ?_⟩ hd)
  rw [hs]
  refine Calls.evalArgs_plain ?_
  show wpAny _ _ (spliced ((false, eval e₀ X.env) :: [])) _ _ s
  refine Calls.spliced_cons (thn (he pins s σ H _ I h) fun u s1 ⟨v, H1, I1, r1, q1⟩ => ?_)
  refine Calls.spliced_nil ⟨rfl, by show 1 ≤ sizeLine; rw [sizeLine_eq]; decide, I1.kIn _ _ hC, hN.keeps I1.bk, T.keeps I1.bk, fun h' e hx => ?_⟩
  exact hT pins σ H1 s1 h' e C _ I1 hx q1
end
structure CalE (P : Program) (w : World) (K : PySem.W.Frag) (mg : Str → Option Value) (base : Heap) (k : Nat) (x : Str) (ps : List Str) (sp : Sp) : Prop where
  len : ∀ vs H Q E, sp vs H Q E → vs.length = ps.length
  ex : ∃ f, mg x = some (.ref f) ∧ PySem.W.keepIn K (.ref f) = true ∧ ∀ (A : Around) (outer : List Env) (s : Shared) (H : Hp) (us : List Value) (vs : List V) (Q : VK) (E : XK), Room k A → Env0 P w K mg base A outer s H → Vals vs us → sp vs H Q E →
    codeAny (model P w) A (.call (.ref f) ⟨us, []⟩) (CR (CXE P w) outer P w H s Q E) s
section
variable {P : Program} {w : World} {K : PySem.W.Frag} {mg : Str → Option Value} {base : Heap} {x : Str} {st : Stmt} {ps N : List Str} {sp : Sp} {k j : Nat}
theorem fun_okE {x qual : Str} {f : Addr} {fd : FuncData} (F : Fun K x qual st f fd) (S : FnScope N ps (defScope st)) (len : ∀ vs H Q E, sp vs H Q E → vs.length = ps.length)
    (hbody : ∀ (cdv : Value) (A : Around) (outer : List Env) (s : Shared) (H : Hp) (vs : List V) (Q : VK) (E : XK), Room k (A.deeper (envOfC qual (defScope st) s.heap.objs.size f cdv)) → sp vs H Q E →
      ∃ t, PSs (cxOf (CXE P w) P w K mg base N qual (defScope st) f cdv A outer s H E) (defBody st) t ∧ t { nx := fun _ H' => Q .non H', rt := Q } (start N vs) H) : FnOk P w K mg base (CXE P w) (k + 1) f fd ps sp := by
  obtain ⟨oc, od, kV, doc, pm, an, cdv, ct, osl, rfl, lk, hcd⟩ := F.ex
  exact fn_of lk hcd S len fun A outer s H vs Q E hr hsp => hbody cdv A outer s H vs Q E hr hsp
theorem Def.okE (D : Def K mg x st ps) (S : FnScope N ps (defScope st)) (len : ∀ vs H Q E, sp vs H Q E → vs.length = ps.length)
    (hbody : ∀ (f : Addr) (cdv : Value) (A : Around) (outer : List Env) (s : Shared) (H : Hp) (vs : List V) (Q : VK) (E : XK), Room k (A.deeper (envOfC x (defScope st) s.heap.objs.size f cdv)) → sp vs H Q E →
      ∃ t, PSs (cxOf (CXE P w) P w K mg base N x (defScope st) f cdv A outer s H E) (defBody st) t ∧ t { nx := fun _ H' => Q .non H', rt := Q } (start N vs) H) : CalE P w K mg base (k + 1) x ps sp := by
  obtain ⟨f, fd, F, hm, hb⟩ := D.ex
  have G := fun_okE F S len (hbody f)
  refine ⟨len, f, hm, F.kp, fun A outer s H us vs Q E hr e0 rv hsp => G.run A outer s H ⟨us, []⟩ us vs Q E hr e0 ?_ rv hsp⟩
  have hl : (us ++ []).length = ps.length := by rw [List.append_nil, ← rv.length]; exact len _ _ _ _ hsp
  have := hb s us (e0.mod.kin.keeps fun b o e => (e0.bs b o e).1) hl
  rw [List.append_nil] at this
  exact this
theorem Cal.e (C : Cal P w K mg base k x ps sp) : CalE P w K mg base k x ps sp := by
  obtain ⟨f, fd, F, hm, hk, hb⟩ := C.ex
  refine ⟨F.len, f, hm, hk, fun A outer s H us vs Q E hr e0 rv hsp => ?_⟩
  have hl : (us ++ []).length = ps.length := by rw [List.append_nil, ← rv.length]; exact F.len _ _ _ _ hsp
  have h := hb s us (e0.mod.kin.keeps fun b o e => (e0.bs b o e).1) hl
  rw [List.append_nil] at h
  refine codeAny_mono (F.run A outer s H ⟨us, []⟩ us vs Q E hr e0 h rv hsp) fun r s' q => ?_
  cases r with
  | ok fl => cases fl <;> exact q
  | error e => exact q.elim
theorem CalE.mono (C : CalE P w K mg base j x ps sp) (h : j ≤ k) : CalE P w K mg base k x ps sp := by
  obtain ⟨f, hm, hk, F⟩ := C.ex
  exact ⟨C.len, f, hm, hk, fun A outer s H us vs Q E hr => F A outer s H us vs Q E (hr.mono h)⟩
theorem CalE.imp {sp' : Sp} (C : CalE P w K mg base k x ps sp) (h : ∀ vs H Q E, sp' vs H Q E → sp vs H Q E) : CalE P w K mg base k x ps sp' := by
  obtain ⟨f, hm, hk, F⟩ := C.ex
  exact ⟨fun vs H Q E q => C.len vs H Q E (h _ _ _ _ q), f, hm, hk, fun A outer s H us vs Q E hr e0 rv hsp => F A outer s H us vs Q E hr e0 rv (h _ _ _ _ hsp)⟩
theorem CalE.or {sp' : Sp} (C : CalE P w K mg base k x ps sp) (C' : CalE P w K mg base k x ps sp') : CalE P w K mg base k x ps (fun vs H Q E => sp vs H Q E ∨ sp' vs H Q E) := by
  obtain ⟨f, hm, hk, F⟩ := C.ex
  obtain ⟨f', hm', hk', F'⟩ := C'.ex
  rw [hm] at hm'
  cases hm'
  refine ⟨fun vs H Q E q => q.elim (C.len vs H Q E) (C'.len vs H Q E), f, hm, hk, fun A outer s H us vs Q E hr e0 rv hsp => ?_⟩
  rcases hsp with q | q
  · exact F A outer s H us vs Q E hr e0 rv q
  · exact F' A outer s H us vs Q E hr e0 rv q
end
section
variable {X : Cx} {x : Str} {ps : List Str} {sp : Sp} {k : Nat} {p pos : Pos} {e : Expr} {es : List Expr} {t : TA} {E : XK}
theorem pe_fnE (C : CalE X.prog X.w X.K X.mg X.base k x ps sp) (hp : Passes (CXE X.prog X.w) X E) (hr : Room k X.A) (ha : PA X (e :: es) t) (hg : Gl X x := by rfl) (hdb : (x == ("__debug__" : Str)) = false := by decide) (he : starEach (e :: es) X.env = (false, eval e X.env) :: starEach es X.env := by rfl)
    (hpl : (backTo pos (starEach es X.env)).any (·.1) = false := by rfl) : PE X (.Call (.Name x p) (e :: es) [] pos) (tCall sp [] E t) := by
  obtain ⟨f, hm, hk, F⟩ := C.ex
  intro pins s σ H Q I h
  refine wpAny_Call_Name_kw (ld_glob I hg hm ?_ hdb)
  refine PySem.W.callWith_K (h₀ := X.base) I.ok.mod.kin hk (thn (ha pos pins s σ H _ I h) fun us s1 ⟨vs, H1, I1, r, q⟩ => ⟨I1.kIn, ?_⟩) he hpl
  have q : sp (vs ++ []) H1 Q E := q
  rw [List.append_nil] at q
  refine wpAny_call (codeAny_mono (F X.A X.stack s1 H1 us vs Q E hr I1.env0 r q) fun r s' hq => ?_)
  cases r with
  | error e => exact hp pins σ H1 s1 e s' I1 hq
  | ok fl =>
    cases fl with
    | ret u => exact I1.after hq
    | next => exact False.elim hq
    | brk => exact False.elim hq
    | cont => exact False.elim hq
end
end L2
namespace L2
open PySem PySem.Spec PySem.Calls PyProof.Rows PySem.W
structure RoomM (k : Nat) (A : Around) : Prop where
  dp : A.depth + 3 * k + 5 < recursionLimit
  un : A.units + 16 * k + 200 < cLine
theorem Room.m {k : Nat} {A : Around} (r : Room k A) : RoomM k A := ⟨r.dp, r.un⟩
theorem RoomM.mono {j k : Nat} {A : Around} (r : RoomM k A) (h : j ≤ k) : RoomM j A := ⟨by have := r.dp; omega, by have := r.un; omega⟩
theorem RoomM.deeper {k : Nat} {A : Around} (r : RoomM (k + 1) A) (env : Env) : RoomM k (A.deeper env) :=
  ⟨by have := r.dp; show A.depth + 1 + 3 * k + 5 < _; omega, by have := r.un; show A.units + 3 + 16 * k + 200 < _; omega⟩
theorem RoomM.mark {k : Nat} {A : Around} (r : RoomM k A) (v : Option Value) : RoomM k (A.mark v) := ⟨r.dp, r.un⟩
theorem RoomM.depth {k : Nat} {A : Around} (r : RoomM k A) : A.depth < recursionLimit := by have := r.dp; omega
structure FnOkM (P : Program) (w : World) (K : PySem.W.Frag) (mg : Str → Option Value) (base : Heap) (k : Nat) (f : Addr) (fd : FuncData) (ps : List Str) (sp : Sp) : Prop where
  len : ∀ vs H Q E, sp vs H Q E → vs.length = ps.length
  run : ∀ (A : Around) (outer : List Env) (s : Shared) (H : Hp) (args : Args) (us : List Value) (vs : List V) (Q : VK) (E : XK), RoomM k A → Env0 P w K mg base A outer s H → BindsTo s fd args (ps.zip us) → Vals vs us → sp vs H Q E →
    codeAny (model P w) A (.call (.ref f) args) (CR CX0 outer P w H s Q E) s
abbrev Cx.wild (X : Cx) : Cx := { X with calm := false, xe := fun _ _ => False }
section
variable {P : Program} {w : World} {K : PySem.W.Frag} {mg : Str → Option Value} {base : Heap} {N ps : List Str} {x : Str} {st : Stmt} {sp : Sp} {k : Nat}
theorem inv_startM {qual : Str} {scope : Scope} {f : Addr} {cd : Value} {A : Around} {outer : List Env} {s s1 : Shared} {H : Hp} {E : XK} {us : List Value} {vs : List V}
    (S : FnScope N ps scope) (e0 : Env0 P w K mg base A outer s H) (hl : vs.length = ps.length) (r : Vals vs us)
    (y : InCallC s s.heap.objs.size (bindL (envOfC qual scope s.heap.objs.size f cd).kindOf (ps.zip us) fun _ => none) (cellsFrom (s.heap.objs.size + 1) scope.names []) (bindC (envOfC qual scope s.heap.objs.size f cd).kindOf (ps.zip us) fun _ => none) s1) :
    Inv (cxOf CX0 P w K mg base N qual scope f cd A outer s H E).wild [] (start N vs) H s1 := by
  have I := inv_start (CX := CX0) (A := { A with handled := none }) (E := E) S rfl ⟨e0.frames, e0.mod, e0.bs, e0.bsz, e0.funs, e0.frf, e0.hok, e0.bare⟩ hl r y
  exact ⟨⟨I.ok.mod, I.ok.kind, I.ok.glob, I.ok.blt, I.ok.above, I.ok.inj, I.ok.has, I.ok.cab, fun z => Bool.noConfusion z, I.ok.frames, I.ok.stk, I.ok.exf, I.ok.bs, I.ok.bsz, I.ok.noex, I.ok.exfs, I.ok.funs, I.ok.frf⟩, I.os, I.bare, I.base, I.loc, I.cell, I.free, I.freeC, I.pin, I.hok, I.len⟩
structure CalM (P : Program) (w : World) (K : PySem.W.Frag) (mg : Str → Option Value) (base : Heap) (k : Nat) (x : Str) (ps : List Str) (sp : Sp) : Prop where
  ex : ∃ f fd, FnOkM P w K mg base k f fd ps sp ∧ mg x = some (.ref f) ∧ PySem.W.keepIn K (.ref f) = true ∧ Binds K fd ps []
theorem Def.okM (D : Def K mg x st ps) (S : FnScope N ps (defScope st)) (len : ∀ vs H Q E, sp vs H Q E → vs.length = ps.length)
    (hbody : ∀ (f : Addr) (cdv : Value) (A : Around) (outer : List Env) (s : Shared) (H : Hp) (vs : List V) (Q : VK) (E : XK), RoomM k (A.deeper (envOfC x (defScope st) s.heap.objs.size f cdv)) → sp vs H Q E →
      ∃ t, PSs (cxOf CX0 P w K mg base N x (defScope st) f cdv A outer s H E).wild (defBody st) t ∧ t { nx := fun _ H' => Q .non H', rt := Q } (start N vs) H) : CalM P w K mg base (k + 1) x ps sp := by
  obtain ⟨f, fd, F, hm, hb⟩ := D.ex
  refine ⟨f, fd, ⟨len, fun A outer s H args us vs Q E hr e0 hbt r hsp => ?_⟩, hm, F.kp, hb⟩
  obtain ⟨oc, od, kV, doc, pm, an, cdv, ct, osl, rfl, lk, hcd⟩ := F.ex
  have hl := len _ _ _ _ hsp
  have KX : K.In s.heap := e0.mod.kin.keeps fun b o e => (e0.bs b o e).1
  have lim : s.heap.NoLimit := e0.mod.nolimit.keeps fun b o e => (e0.bs b o e).1
  have hkind : ∀ y ∈ ps.zip us, (defScope st).names.lookup y.1 = some .local ∨ ((defScope st).names.lookup y.1 = some .cell ∧ ((cellsFrom (s.heap.objs.size + 1) (defScope st).names []).lookup y.1).isSome = true) := fun y hy => by
    obtain ⟨n, v⟩ := y
    rcases S.par n (List.of_mem_zip hy).1 with q | q
    · exact .inl q
    · exact .inr ⟨q, PySem.W.cellsFrom_some _ _ _ (.inl q)⟩
  refine codeAny_call_function hr.depth (KX _ _ lk) rfl S.co S.gen rfl (PySem.W.codeRec_of KX hcd) (hbt _ _ _ _ ?_)
  refine wpAny_newFunctionEnv_cells S.kind hkind fun env he s1 z => ?_
  subst he
  refine ⟨lim.keeps z.toInCall.keep, codeAny_func ?_⟩
  obtain ⟨t, ht, hq⟩ := hbody f cdv A outer s H vs Q E (hr.deeper _) hsp
  have I := inv_startM (E := E) S e0 hl r z
  refine wpAny_mono (ht [] s1 (start N vs) H _ I hq) (fun fl s' hs => ?_) fun e s' hs => hs.elim
  cases fl with
  | ret u => obtain ⟨v, σ', H', J, rv, q⟩ := hs; exact ⟨v, H', J.os, J.bare, J.base, J.hok, rv, q⟩
  | next => obtain ⟨σ', H', J, q⟩ := hs; exact ⟨.non, H', J.os, J.bare, J.base, J.hok, rfl, q⟩
  | brk => obtain ⟨_, _, _, q⟩ := hs; exact q.elim
  | cont => obtain ⟨_, _, _, q⟩ := hs; exact q.elim
end
section
variable {X : Cx} {x : Str} {ps : List Str} {sp : Sp} {k : Nat} {p pos : Pos} {e : Expr} {es : List Expr} {t : TA}
theorem pe_fnM (C : CalM X.prog X.w X.K X.mg X.base k x ps sp) (hr : RoomM k X.A) (ha : PA X (e :: es) t) (hg : Gl X x := by rfl) (hdb : (x == ("__debug__" : Str)) = false := by decide) (he : starEach (e :: es) X.env = (false, eval e X.env) :: starEach es X.env := by rfl)
    (hpl : (backTo pos (starEach es X.env)).any (·.1) = false := by rfl) : PE X (.Call (.Name x p) (e :: es) [] pos) (tCall sp [] E0 t) := by
  obtain ⟨f, fd, F, hm, hk, hb⟩ := C.ex
  intro pins s σ H Q I h
  refine wpAny_Call_Name_kw (ld_glob I hg hm ?_ hdb)
  refine PySem.W.callWith_K (h₀ := X.base) I.ok.mod.kin hk (thn (ha pos pins s σ H _ I h) fun us s1 ⟨vs, H1, I1, r, q⟩ => ⟨I1.kIn, ?_⟩) he hpl
  have hl : (us ++ []).length = ps.length := by rw [List.append_nil, ← r.length]; have := F.len _ _ _ _ q; rw [List.append_nil] at this; exact this
  have r2 : Vals (vs ++ []) (us ++ []) := r.append .nil
  refine wpAny_call (codeAny_mono (F.run X.A X.stack s1 H1 ⟨us, []⟩ (us ++ []) (vs ++ []) Q E0 hr I1.env0 (hb s1 us I1.kIn hl) r2 q) fun r s' hq => ?_)
  cases r with
  | error e => exact hq.elim
  | ok fl =>
    cases fl with
    | ret u => exact I1.after hq
    | next => exact hq.elim
    | brk => exact hq.elim
    | cont => exact hq.elim
end
end L2
namespace L2
open PySem PySem.Spec PySem.Calls PyProof.Rows PySem.W
def ExcO (a C : Addr) : HO := .ext fun h => InCls h a C
theorem excO_ok {P : Program} {w : World} {H : Hp} {h : Heap} {a C : Addr} (I : InCls h a C) : ObjOk P w H h a (ExcO a C) := by
  refine ⟨I, ?_, fun h1 h2 p k => ?_⟩
  · obtain ⟨o, e, _⟩ := I; exact ⟨o, e⟩
  · obtain ⟨o, e, c⟩ := p; exact ⟨o, k o e, c⟩
section
variable {X : Cx}
def rIsX (K : PySem.W.Frag) : List V → Hp → VK → Prop := fun xs H Q => ∃ a C v c b, xs = [.ref a, v] ∧ H a = some (ExcO a C) ∧ XCls K C ∧ ((∃ D, v = .ref D ∧ c = Value.ref D) ∨ ∃ T, v = .ty T ∧ c = Value.type T) ∧ kitOne K (.ref C) c = some b ∧ Q (.bl b) H
theorem call_isX : CallR X (.builtin "isinstance") (rIsX X.K) := by
  intro pins s σ H xs us Q I r h
  obtain ⟨a, C, v, c, b, rfl, ha, hc, hv, hk, q⟩ := h
  obtain ⟨u, u', rfl, ru, rv⟩ := r.two
  cases ru
  have ec : u' = c := by
    rcases hv with ⟨D, rfl, rfl⟩ | ⟨T, rfl, rfl⟩
    · exact rv
    · exact rv
  subst ec
  obtain ⟨p, _, _⟩ := (show ObjOk X.prog X.w H s.heap a (ExcO a C) from I.hok a _ ha)
  exact kia_one (kitx_exc hc) I.kIn p hk (fun z => nomatch z) fun tk => ⟨.bl b, H, I.tok tk, rfl, q⟩
end
theorem un_on {P : Program} {w : World} {fs : List Addr} {H H' : Hp} {h h2 h3 B : Heap} (U : Un fs [] H H' h h2) (ok : HOk P w H' h2) (cov : ∀ b o, h2.get? b = some o → b ∉ fs → (H' b ≠ none ∨ h.get? b ≠ none) → B.get? b = some o)
    (hfun : ∀ b ∈ fs, ∃ o, h2.get? b = some o ∧ ∀ vs, o.data ≠ .fields vs) (hfree : ∀ b ∈ fs, H' b = none) (st : B.StaysIn h3) (up : h2.UpToSlots h3) : Un fs [] H H' h h3 ∧ HOk P w H' h3 := by
  have n0 : ∀ b : Addr, b ∉ ([] : List Addr) := fun b => by simp
  have on : ∀ b o, h2.get? b = some o → b ∉ fs → (H' b ≠ none ∨ h.get? b ≠ none) → h3.get? b = some o := fun b o q h1 h2 => st b o (cov b o q h1 h2)
  have sl : ∀ b o, h2.get? b = some o → b ∈ fs → ∃ sl, h3.get? b = some { o with slots := sl } := fun b o q hb => by
    obtain ⟨o', ho', hnf⟩ := hfun b hb
    rw [q] at ho'
    cases ho'
    exact up b o q hnf
  refine ⟨⟨fun b o q hn hb hx => on b o (U.keep b o q hn hb hx) hb (.inr (by rw [q]; simp)), fun b o q hn hb hx => ?_, U.free, fun b o q hx => ?_, U.tups, U.frzs, U.tbls⟩, fun b u q => ?_⟩
  · obtain ⟨sl1, e1⟩ := U.slot b o q hn hb hx
    obtain ⟨sl2, e2⟩ := sl b _ e1 hb
    exact ⟨sl2, e2⟩
  · obtain ⟨o2, e2⟩ := U.there b o q hx
    by_cases hb : b ∈ fs
    · obtain ⟨sl2, e3⟩ := sl b o2 e2 hb
      exact ⟨_, e3⟩
    · exact ⟨o2, on b o2 e2 hb (.inr (by rw [q]; simp))⟩
  · refine (ok b u q).stay (fun c v hc z => ?_) (fun _ z => z) fun _ _ z => z
    have hc' : H' c ≠ none := by
      rcases hc with rfl | hc
      · rw [q]; simp
      · rw [hc]; simp
    exact on c v z (fun hm => hc' (hfree c hm)) (.inl hc')
abbrev Cx.within (X : Cx) (pins : List (Addr × Obj)) (Et : Value → Shared → Prop) : Cx := { X with xe := Et, pn := X.pn ++ pins }
abbrev Cx.caught (X : Cx) (a : Addr) : Cx := { X with A := X.A.mark (some (.ref a)), calm := false, xe := fun _ _ => False }
section
variable {X : Cx} {pins : List (Addr × Obj)} {σ : St} {H : Hp} {s : Shared}
theorem Inv.within (I : Inv X pins σ H s) (Et : Value → Shared → Prop) : Inv (X.within pins Et) [] σ H s :=
  ⟨⟨I.ok.mod, I.ok.kind, I.ok.glob, I.ok.blt, I.ok.above, I.ok.inj, I.ok.has, I.ok.cab, I.ok.hd, I.ok.frames, I.ok.stk, I.ok.exf, I.ok.bs, I.ok.bsz, I.ok.noex, I.ok.exfs, I.ok.funs, I.ok.frf⟩, I.os, I.bare, I.base, I.loc, I.cell, I.free, I.freeC, fun p hp => I.pin p (by simpa using hp), I.hok, I.len⟩
theorem Inv.without {Et : Value → Shared → Prop} {pins' : List (Addr × Obj)} (I : Inv (X.within pins Et) pins' σ H s) : Inv X pins σ H s :=
  ⟨⟨I.ok.mod, I.ok.kind, I.ok.glob, I.ok.blt, I.ok.above, I.ok.inj, I.ok.has, I.ok.cab, I.ok.hd, I.ok.frames, I.ok.stk, I.ok.exf, I.ok.bs, I.ok.bsz, I.ok.noex, I.ok.exfs, I.ok.funs, I.ok.frf⟩, I.os, I.bare, I.base, I.loc, I.cell, I.free, I.freeC, fun p hp => I.pin p (List.mem_append_left _ hp), I.hok, I.len⟩
theorem Inv.caught (I : Inv X pins σ H s) (a : Addr) : Inv (X.caught a) pins σ H s :=
  ⟨⟨I.ok.mod, I.ok.kind, I.ok.glob, I.ok.blt, I.ok.above, I.ok.inj, I.ok.has, I.ok.cab, fun z => Bool.noConfusion z, I.ok.frames, I.ok.stk, I.ok.exf, I.ok.bs, I.ok.bsz, I.ok.noex, I.ok.exfs, I.ok.funs, I.ok.frf⟩, I.os, I.bare, I.base, I.loc, I.cell, I.free, I.freeC, I.pin, I.hok, I.len⟩
theorem Inv.gone {a : Addr} (hd : X.calm = true → X.A.handled = none) (I : Inv (X.caught a) pins σ H s) {h' : Heap} {m' : Str → Option Value} {tk : Nat} (hn : h'.Ns X.env.locals m') (hs : Heap.SameBut X.env.locals s.heap h') : Inv X pins (List.replicate X.N.length none) H { s with heap := h', toks := tk } := by
  have nl : ∀ b o, X.s₀.heap.get? b = some o → b ≠ X.env.locals := fun b o e => Nat.ne_of_lt (Nat.lt_of_lt_of_le (Heap.lt_size e) I.ok.above)
  refine ⟨⟨I.ok.mod, I.ok.kind, I.ok.glob, I.ok.blt, I.ok.above, I.ok.inj, I.ok.has, I.ok.cab, hd, I.ok.frames, I.ok.stk, I.ok.exf, I.ok.bs, I.ok.bsz, I.ok.noex, I.ok.exfs, I.ok.funs, I.ok.frf⟩, I.os, I.bare,
    ⟨fun b o e n hb hx => (hs.2 b (nl b o e)).trans (I.base.keep b o e n hb hx), fun b o e n hb hx => ?_, I.base.free, fun b o e hx => ?_, I.base.tups, I.base.frzs, I.base.tbls⟩, ⟨m', hn, fun i x v e1 e2 e3 => ?_⟩, fun y c e => ?_, I.free, I.freeC, fun p hp => ?_, fun b ob e => ?_, by simp⟩
  · obtain ⟨sl, e1⟩ := I.base.slot b o e n hb hx
    exact ⟨sl, (hs.2 b (nl b o e)).trans e1⟩
  · obtain ⟨o', e1⟩ := I.base.there b o e hx
    exact ⟨o', (hs.2 b (nl b o e)).trans e1⟩
  · rw [List.getElem?_replicate] at e2
    split at e2 <;> cases e2
  · obtain ⟨v, z⟩ := I.cell y c e
    exact ⟨v, z.sameBut hs (I.cne y c e)⟩
  · obtain ⟨e, n, ne, nf, d⟩ := I.pin p hp
    exact ⟨(hs.2 p.1 ne).trans e, n, ne, nf, d⟩
  · have hfree : H X.env.locals = none := I.free
    refine (I.hok b ob e).stay (fun c w' hc q => (hs.2 c ?_).trans q) (fun _ q => q) fun _ _ q => q
    rintro rfl
    rcases hc with rfl | hc
    · rw [hfree] at e; cases e
    · rw [hfree] at hc; cases hc
end
end L2
namespace L2
open PySem PySem.Spec PySem.Calls PyProof.Rows PySem.W
section
variable {X : Cx} {x n : Str} {CA : Addr} {i : Nat} {Ew : XK} {body suite : List Stmt} {b₀ : Stmt} {np hpos tpos : Pos} {tb ts : TS}
def tTry (tb ts : TS) (i k : Nat) (Ew : XK) : TS := fun D σ H => tb D σ H ∧ ∀ (C a : Addr) (H' : Hp) (σ' : St), σ'.length = k → Ew (.ref C) none H' → H' a = none → ts { nx := fun _ _ => False, rt := D.rt } (σ'.set i (some (.ref a))) (upd H' a (ExcO a C))
theorem caught_as (d : DefCx X) {pins : List (Addr × Obj)} {σ : St} {H : Hp} {s s' : Shared} {e : Value} {D : Ends} (hs : ∀ a, PSs (X.caught a) (b₀ :: suite) ts) (hm : X.mg x = some (.ref CA)) (hg : Gl X x)
    (hmt : ∀ C H', Ew (.ref C) none H' → exmOne X.K (.ref C) (.ref CA) = some true) (hN : X.N.Nodup) (hi : X.N[i]? = some n) (hlo : X.env.kindOf n = some .local) (hdb : (x == ("__debug__" : Str)) = false)
    (I : Inv X pins σ H s) (h : CXE X.prog X.w X.stack H s Ew e s')
    (ht : ∀ (C a : Addr) (H' : Hp) (σ' : St), σ'.length = X.N.length → Ew (.ref C) none H' → H' a = none → ts { nx := fun _ _ => False, rt := D.rt } (σ'.set i (some (.ref a))) (upd H' a (ExcO a C))) :
    wpAny (model X.prog X.w) X.A (noteFrame e X.env) (fun _ s₂ => wpAny (model X.prog X.w) X.A (setFlight e none) (fun _ s₃ =>
      wpAny (model X.prog X.w) X.A (handleBy e X.env [.ExceptHandler (some (.Name x np)) (some n) (b₀ :: suite) hpos]) (SP X pins D) X.xe s₃) X.xe s₂) X.xe s' := by
  obtain ⟨a, C, H', B, a0, rfl, os, bare, fl, U, ok, na, Ha, cov, hE⟩ := h
  have hfr : X.A.frames = some (X.env :: X.outer) := by rw [I.ok.frames, d.stk]
  have hfree : ∀ b ∈ frs X.stack, H' b = none := fun b hb => by
    obtain ⟨_, o1, ho1, _⟩ := (I.stack).mem hb
    exact U.free b o1 ho1 (I.stkFree b hb) (by simp)
  have hfun : ∀ b ∈ frs X.stack, ∃ o, s'.heap.get? b = some o ∧ ∀ vs, o.data ≠ .fields vs := fun b hb => (fl.2.2.1.mem hb).2
  refine wpAny_looks_onW (base := B) hfr d.fr (by rw [d.stk] at fl; exact fl) fun h₄ held₄ up₄ => ?_
  refine wpAny_landsW held₄ fun h₅ fl₅ up₅ => ?_
  have up5 := up₄.trans up₅
  obtain ⟨U5, ok5⟩ := un_on U ok cov hfun hfree fl₅.1 up5
  have I5 : Inv X pins σ H' { s' with heap := h₅ } := I.call' (s' := { s' with heap := h₅ }) (ch := []) os U5 ok5 bare fun b hb => absurd hb (by simp)
  refine wpAny_handleBy_cons (codeAny_handlers_test (ld_glob (X := X.caught a) (I5.caught a) hg hm ?_ hdb)) (by intro q; cases q)
  have inC : InCls h₅ a C := fl₅.there
  have LM := exm_one (M := model X.prog X.w) I5.kIn inC.type (hmt C H' hE)
  refine LM.here (codeAny_handlers_suite_as ?_)
  refine lands_againW fl₅ fun h₆ fl₆ up₆ => ?_
  obtain ⟨U6, ok6⟩ := un_on U ok cov hfun hfree fl₆.1 (up5.trans up₆)
  have nb : ∀ b o, s.heap.get? b = some o → b ≠ a := fun b o q z => by rw [z, na] at q; cases q
  have nt : ∀ b u, H' b = some u → b ≠ a := fun b u q z => by rw [z, Ha] at q; cases q
  have U7 : Un (frs X.stack) [] H (upd H' a (ExcO a C)) s.heap h₆ :=
    ⟨U6.keep, U6.slot, fun b o q hn hx => by rw [upd_ne (nb b o q)]; exact U6.free b o q hn hx, U6.there, fun b xs q => by have z := U6.tups b xs q; rw [upd_ne (nt b _ z)]; exact z,
      fun b o u q => by have z := U6.frzs b o u q; rw [upd_ne (nt b _ z)]; exact z, fun b ps q => by obtain ⟨m, z⟩ := U6.tbls b ps q; exact ⟨m, by rw [upd_ne (nt b _ z)]; exact z⟩⟩
  have ok7 : HOk X.prog X.w (upd H' a (ExcO a C)) h₆ := fun b u q => by
    by_cases hb : b = a
    · subst hb
      rw [upd_same] at q
      cases q
      exact excO_ok fl₆.there
    · rw [upd_ne hb] at q
      exact (ok6 b u q).stay (fun _ _ _ z => z) (fun c z => by rw [upd_ne (nt c _ z)]; exact z) fun c xs z => by rw [upd_ne (nt c _ z)]; exact z
  have I7 : Inv X pins σ (upd H' a (ExcO a C)) { s' with heap := h₆ } := I.call' (s' := { s' with heap := h₆ }) (ch := []) os U7 ok7 bare fun b hb => absurd hb (by simp)
  refine store_ok (X := X.caught a) (v := .ref a) (I7.caught a) hN hi (.inl hlo) rfl (fun s8 I8 => ?_) (.inr hlo)
  refine wpAny_mono (hs a pins s8 _ _ { nx := fun _ _ => False, rt := D.rt } I8 (ht C a H' σ I.len hE Ha)) (fun f s9 q => ?_) fun _ _ z => z.elim
  cases f with
  | ret u =>
    obtain ⟨v, σ', H'', J, r, q⟩ := q
    obtain ⟨m, hn, _⟩ := J.loc
    exact wpAny_nameGoes hlo hn (by rw [I.ok.kind]; rfl) fun h' m' hn' hs' => ⟨v, _, H'', J.gone I.ok.hd hn' hs', r, q⟩
  | next => obtain ⟨_, _, _, z⟩ := q; exact z.elim
  | brk => obtain ⟨_, _, _, z⟩ := q; exact z.elim
  | cont => obtain ⟨_, _, _, z⟩ := q; exact z.elim
theorem ps_try (d : DefCx X) (hb : ∀ pins Et, Passes (CXE X.prog X.w) (X.within pins Et) Ew → PSs (X.within pins Et) body tb) (hs : ∀ a, PSs (X.caught a) (b₀ :: suite) ts) (hm : X.mg x = some (.ref CA)) (hg : Gl X x)
    (hmt : ∀ C H', Ew (.ref C) none H' → exmOne X.K (.ref C) (.ref CA) = some true) (hN : X.N.Nodup) (hi : X.N[i]? = some n) (hlo : X.env.kindOf n = some .local) (hdb : (x == ("__debug__" : Str)) = false := by decide) :
    PS X (.Try body [.ExceptHandler (some (.Name x np)) (some n) (b₀ :: suite) hpos] [] [] tpos) (tTry tb ts i X.N.length Ew) := by
  intro pins s σ H D I h
  obtain ⟨h1, h2⟩ := h
  refine wpAny_Try_except (wpAny_mono (hb pins (fun e s₁ => wpAny (model X.prog X.w) X.A (noteFrame e X.env) (fun _ s₂ => wpAny (model X.prog X.w) X.A (setFlight e none) (fun _ s₃ =>
      wpAny (model X.prog X.w) X.A (handleBy e X.env [.ExceptHandler (some (.Name x np)) (some n) (b₀ :: suite) hpos]) (SP X pins D) X.xe s₃) X.xe s₂) X.xe s₁)
    (fun pins' σ' H' s1 e s' I' q => caught_as d hs hm hg hmt hN hi hlo hdb I'.without q h2) [] s σ H D (I.within _) h1) (fun f s1 q => ?_) fun _ _ z => z)
  cases f with
  | next => obtain ⟨σ', H', J, q⟩ := q; exact wpAny_execs_nil ⟨σ', H', J.without, q⟩
  | ret u => obtain ⟨v, σ', H', J, r, q⟩ := q; exact ⟨v, σ', H', J.without, r, q⟩
  | brk => obtain ⟨σ', H', J, q⟩ := q; exact ⟨σ', H', J.without, q⟩
  | cont => obtain ⟨σ', H', J, q⟩ := q; exact ⟨σ', H', J.without, q⟩
end
end L2
namespace L2
open PySem PySem.Spec PySem.Calls PyProof.Rows PySem.W
def PJ (X : Cx) (es : List Expr) (t : St → Hp → (Hp → Prop) → Prop) : Prop :=
  ∀ (acc : Str), acc.length + 2000 * es.length ≤ sizeLine → ∀ (pins : List (Addr × Obj)) (s : Shared) (σ : St) (H : Hp) (Q : VK), Inv X pins σ H s → t σ H (fun H' => ∀ z, Q (.str z) H') → wpAny (model X.prog X.w) X.A (joinParts acc (evalEach es X.env)) (EP X pins σ Q) X.xe s
section
variable {X : Cx} {e : Expr} {es : List Expr} {te : TE} {t : St → Hp → (Hp → Prop) → Prop} {pos : Pos}
end
end L2
namespace Law
open PySem L2 SA
structure Err (K : PySem.W.Frag) (mg : Str → Option Value) (x : Str) (C : Addr) : Prop where
  nm : mg x = some (.ref C)
  ex : PySem.W.excIn K C bmV newV = true
  xc : XCls K C
structure Five (K : PySem.W.Frag) (mg : Str → Option Value) (c0 c1 c2 c3 c4 : Addr) : Prop where
  n0 : mg "NoSize" = some (.ref c0)
  n1 : mg "NoSuch" = some (.ref c1)
  n2 : mg "NoRow" = some (.ref c2)
  n3 : mg "NoPerson" = some (.ref c3)
  n4 : mg "NoNote" = some (.ref c4)
  nv : mg "ValueError" = none
structure Kind (K : PySem.W.Frag) (c0 c1 c2 c3 c4 C : Addr) (j : Nat) : Prop where
  xc : XCls K C
  k0 : PySem.W.kitOne K (.ref C) (.ref c0) = some (decide (j = 0))
  k1 : PySem.W.kitOne K (.ref C) (.ref c1) = some (decide (j = 1))
  k2 : PySem.W.kitOne K (.ref C) (.ref c2) = some (decide (j = 2))
  k3 : PySem.W.kitOne K (.ref C) (.ref c3) = some (decide (j = 3))
  k4 : PySem.W.kitOne K (.ref C) (.ref c4) = some (decide (j = 4))
  kv : PySem.W.kitOne K (.ref C) (.type "ValueError") = some true
def words : List Str := ["size", "such", "row", "person", "note"]
def spWord (K : PySem.W.Frag) (c0 c1 c2 c3 c4 : Addr) : Sp := fun vs H Q _ => ∃ (a C : Addr) (j : Nat), vs = [.ref a] ∧ H a = some (ExcO a C) ∧ j < 5 ∧ Kind K c0 c1 c2 c3 c4 C j ∧ ∀ H', Same H H' → Q (.str (words.getD j "")) H'
theorem cls_of {K : PySem.W.Frag} {t : Value} {D : Addr} {b : Bool} (h1 : PySem.W.isClsIn K D = true) (h2 : PySem.W.typeIn K (.ref D) = some (.type "type")) (h3 : PySem.W.subIn K t (.ref D) = some b) : PySem.W.kitCls K t (.ref D) = some b := by
  have h1 : (PySem.W.clsIn K D).isSome = true := h1
  show (if ((PySem.W.clsIn K D).isSome && PySem.W.typeIn K (.ref D) == some (.type "type")) = true then PySem.W.subIn K t (.ref D) else none) = some b
  rw [h1, h2, if_pos (by decide)]
  exact h3
theorem kit_of_sub {K : PySem.W.Frag} {C D : Addr} {b : Bool} (h1 : PySem.W.isClsIn K D = true) (h2 : PySem.W.typeIn K (.ref D) = some (.type "type")) (h3 : PySem.W.subIn K (.ref C) (.ref D) = some b) (h4 : (Value.ref C == Value.ref D) = true → b = true) : PySem.W.kitOne K (.ref C) (.ref D) = some b := by
  unfold PySem.W.kitOne
  by_cases e : (Value.ref C == Value.ref D) = true
  · rw [if_pos e, h4 e]
  · rw [if_neg e]
    exact cls_of h1 h2 h3
theorem kit_of_ty {K : PySem.W.Frag} {C : Addr} {T : String} {b : Bool} (h2 : PySem.W.kitMeta T = true) (h3 : PySem.W.subIn K (.ref C) (.type T) = some b) : PySem.W.kitOne K (.ref C) (.type T) = some b := by
  unfold PySem.W.kitOne
  rw [if_neg (show ¬ (Value.ref C == Value.type T) = true from fun z => by have := beq_iff_eq.mp z; cases this)]
  show (if PySem.W.kitMeta T = true then PySem.W.subIn K (.ref C) (.type T) else none) = some b
  rw [if_pos h2]
  exact h3
theorem exm_of {K : PySem.W.Frag} {C D : Addr} (h0 : PySem.W.subIn K (.ref D) (.type "BaseException") = some true) (h1 : PySem.W.isClsIn K D = true) (h2 : PySem.W.typeIn K (.ref D) = some (.type "type")) (h3 : PySem.W.subIn K (.ref C) (.ref D) = some true) : PySem.W.exmOne K (.ref C) (.ref D) = some true := by
  unfold PySem.W.exmOne
  rw [h0, if_pos (by decide)]
  exact cls_of h1 h2 h3
end Law
namespace L2
open PySem PySem.Spec PyProof.Rows
end L2
namespace L2
open PySem PySem.Spec PySem.Calls PyProof.Rows
section
variable {X : Cx}
end
end L2
namespace L2
open PySem PySem.Spec PySem.Calls PyProof.Rows PySem.W
section
variable {X : Cx} {pos : Pos}
end
end L2
namespace Law
open PySem L2 SA
def fig (n : Int) : Str := Str.ofString (toString n)
def txtFrom (acc : Str) : List Int → Str
  | [] => acc
  | n :: r => txtFrom (acc ++ Str.ofString " " ++ fig n) r
def txt : List Int → Str
  | [] => Str.empty
  | n :: r => txtFrom (fig n) r
theorem fig_len {n : Int} (h1 : 1 ≤ n) (h2 : n ≤ 400) : (fig n).length ≤ 4 := by
  unfold fig
  rw [PySem.ofString_length]
  exact int_text_length_le10 (a := n) (k := 3) (by decide) (by show n.natAbs < 1000; omega)
theorem txtFrom_len {acc : Str} {r : List Int} (h : ∀ n ∈ r, 1 ≤ n ∧ n ≤ 400) : (txtFrom acc r).length ≤ acc.length + 5 * r.length := by
  induction r generalizing acc with
  | nil => exact Nat.le_refl _
  | cons m r ih =>
    have := ih (acc := acc ++ Str.ofString " " ++ fig m) fun n hn => h n (by simp [hn])
    have hm := fig_len (h m (by simp)).1 (h m (by simp)).2
    rw [strLen_append, strLen_append] at this
    have h1 : (Str.ofString " ").length = 1 := rfl
    rw [List.length_cons]
    show (txtFrom (acc ++ Str.ofString " " ++ fig m) r).length ≤ _
    omega
theorem fig_small {n : Int} (h1 : 1 ≤ n) (h2 : n ≤ 400) : n.natAbs.log2 < 1920 := by
  have h : n.natAbs < 2 ^ 9 := by show n.natAbs < 512; omega
  by_cases h0 : n.natAbs = 0
  · omega
  · have := (Nat.log2_lt h0).mpr h; omega
end Law
namespace TX
open PySem PySem.Builtin PySem.Builtin.Str PySem.StrLaws
def spl (c : Nat) : List Nat → List (List Nat)
  | [] => [[]]
  | a :: r => if a = c then [] :: spl c r else match spl c r with
    | h :: t => (a :: h) :: t
    | [] => [[a]]
def pos (c : Nat) : List Nat → Nat → List Nat
  | [], _ => []
  | a :: r, i => if a = c then i :: pos c r (i + 1) else pos c r (i + 1)
theorem spl_ne (c : Nat) : ∀ l, ∃ h t, spl c l = h :: t
  | [] => ⟨[], [], rfl⟩
  | a :: r => by
    unfold spl
    split
    · exact ⟨_, _, rfl⟩
    · obtain ⟨h, t, e⟩ := spl_ne c r
      rw [e]; exact ⟨_, _, rfl⟩
theorem spl_part_len (c : Nat) : ∀ l, ∀ p ∈ spl c l, p.length ≤ l.length
  | [], p, hp => by
    have : p = [] := by simpa [spl] using hp
    rw [this]; simp
  | a :: r, p, hp => by
    unfold spl at hp
    have ih := spl_part_len c r
    split at hp
    · rcases List.mem_cons.mp hp with e | hp
      · rw [e]; simp
      · have := ih p hp; rw [List.length_cons]; omega
    · obtain ⟨h, t, e⟩ := spl_ne c r
      rw [e] at hp
      rcases List.mem_cons.mp hp with e2 | hp
      · have := ih h (by rw [e]; exact List.mem_cons_self)
        rw [e2, List.length_cons, List.length_cons]; omega
      · have := ih p (by rw [e]; exact List.mem_cons_of_mem _ hp)
        rw [List.length_cons]; omega
theorem occ_pos_go (x : Str) (c : Nat) : ∀ (m i : Nat) (st : Array Nat × Nat), i + m = x.length + 1 → st.2 ≤ i → st.1.size ≤ i →
    (forIn (List.range' i m) st (occBody x ⟨#[c]⟩ x.length (x.length + 1))).run.fst.toList = st.1.toList ++ pos c (x.cps.toList.drop i) i
  | 0, i, st, h, _, _ => by
    have e : x.cps.toList.drop i = [] := by rw [List.drop_eq_nil_iff]; show x.cps.toList.length ≤ i; have : x.cps.toList.length = x.length := by simp [Str.length]
                                            omega
    rw [e]
    simp [pos]
  | m + 1, i, st, h, h1, h2 => by
    have hn : x.cps.toList.length = x.length := by simp [Str.length]
    rw [List.range'_succ, List.forIn_cons]
    have key := subAt_one x c i
    unfold occBody
    by_cases hi : i < x.length
    · have hd : x.cps.toList.drop i = x.cps.toList[i]'(by omega) :: x.cps.toList.drop (i + 1) := List.drop_eq_getElem_cons (by omega)
      have hg : x.cps.toList[i]? = some (x.cps.toList[i]'(by omega)) := List.getElem?_eq_getElem (by omega)
      generalize x.cps.toList[i]'(by omega) = a at hd hg
      rw [hd]
      by_cases hc : a = c
      · rw [hc] at hg
        have k := key.mpr hg
        rw [if_pos ⟨⟨⟨by omega, h1⟩, k.1⟩, k.2⟩]
        have ih := occ_pos_go x c m (i + 1) (st.1.push i, i + 1) (by omega) (Nat.le_refl _) (by rw [Array.size_push]; omega)
        refine Eq.trans ih ?_
        rw [Array.toList_push, List.append_assoc, pos, if_pos hc]; rfl
      · have k : ¬ (i + (⟨#[c]⟩ : Str).length ≤ x.length ∧ subAt x ⟨#[c]⟩ i = true) := fun z => by
          have := key.mp z
          rw [hg] at this
          exact hc (by injection this)
        rw [if_neg (fun z => k ⟨z.1.2, z.2⟩)]
        have ih := occ_pos_go x c m (i + 1) (st.1, st.2) (by omega) (by show st.2 ≤ i + 1; omega) (by show st.1.size ≤ i + 1; omega)
        refine Eq.trans ih ?_
        rw [pos, if_neg hc]
    · have hd : x.cps.toList.drop i = [] := by rw [List.drop_eq_nil_iff]; omega
      have hd2 : x.cps.toList.drop (i + 1) = [] := by rw [List.drop_eq_nil_iff]; omega
      rw [if_neg (fun z => by
        have := z.1.2
        have e1 : (⟨#[c]⟩ : Str).length = 1 := rfl
        omega)]
      have ih := occ_pos_go x c m (i + 1) (st.1, st.2) (by omega) (by show st.2 ≤ i + 1; omega) (by show st.1.size ≤ i + 1; omega)
      refine Eq.trans ih ?_
      rw [hd, hd2]; rfl
theorem occ_pos (x : Str) (c : Nat) : occurrences x ⟨#[c]⟩ 0 x.length (x.length + 1) = pos c x.cps.toList 0 := by
  rw [occ_eq]
  have := occ_pos_go x c (x.length + 1) 0 (#[], 0) (by omega) (Nat.le_refl _) (Nat.zero_le _)
  rw [Nat.sub_zero]
  rw [this]; rfl
def ofL (l : List Nat) : Str := ⟨l.toArray⟩
theorem parts_spl (x : Str) (c : Nat) : ∀ (r : List Nat) (a k : Nat), x.cps.toList.drop k = r → a ≤ k → k ≤ x.length → ∃ h t, spl c r = h :: t ∧ partsFrom x 1 a (pos c r k) = ofL ((x.cps.toList.drop a).take (k - a) ++ h) :: t.map ofL := by
  have hn : x.cps.toList.length = x.length := by simp [Str.length]
  intro r
  induction r with
  | nil =>
    intro a k e hak hk
    refine ⟨[], [], rfl, ?_⟩
    have : x.length ≤ k := by
      have := List.drop_eq_nil_iff.mp e
      omega
    have ek : k = x.length := by omega
    subst ek
    show [strSub x a x.length] = _
    rw [List.append_nil]
    congr 1
    apply Str.ext'
    apply Array.toList_inj.mp
    rw [strSub_toList]; rfl
  | cons b r ih =>
    intro a k e hak hk
    have hkl : k < x.length := by
      by_cases z : k < x.length
      · exact z
      · have : x.cps.toList.drop k = [] := by rw [List.drop_eq_nil_iff]; omega
        rw [this] at e; cases e
    have e2 : x.cps.toList.drop (k + 1) = r := by
      have : x.cps.toList.drop (k + 1) = (x.cps.toList.drop k).drop 1 := by rw [List.drop_drop]
      rw [this, e]; rfl
    have hb : x.cps.toList[k]? = some b := by
      have : (x.cps.toList.drop k)[0]? = some b := by rw [e]; rfl
      rw [List.getElem?_drop] at this; exact this
    by_cases hc : b = c
    · obtain ⟨h, t, e3, e4⟩ := ih (k + 1) (k + 1) e2 (Nat.le_refl _) (by omega)
      refine ⟨[], spl c r, by rw [spl, if_pos hc], ?_⟩
      rw [pos, if_pos hc, List.append_nil]
      show strSub x a k :: partsFrom x 1 (k + 1) (pos c r (k + 1)) = _
      rw [e4, e3, Nat.sub_self, List.take_zero, List.nil_append]
      congr 1
      apply Str.ext'
      apply Array.toList_inj.mp
      rw [strSub_toList]; rfl
    · obtain ⟨h, t, e3, e4⟩ := ih a (k + 1) e2 (by omega) (by omega)
      refine ⟨b :: h, t, by rw [spl, if_neg hc, e3], ?_⟩
      rw [pos, if_neg hc, e4]
      congr 2
      have : (x.cps.toList.drop a).take (k + 1 - a) = (x.cps.toList.drop a).take (k - a) ++ [b] := by
        rw [show k + 1 - a = k - a + 1 by omega, List.take_add_one, List.getElem?_drop, show a + (k - a) = k by omega, hb]; rfl
      rw [this, List.append_assoc]; rfl
theorem split_spl (x : Str) : Txt.split x ⟨#[32]⟩ = (spl 32 x.cps.toList).map ofL := by
  have hn : x.cps.toList.length = x.length := by simp [Str.length]
  have whole : ofL x.cps.toList = x := by
    apply Str.ext'
    apply Array.toList_inj.mp
    rfl
  have k1 : Builtin.Str.strKind (⟨#[32]⟩ : Str) = 1 := by decide +kernel
  have k2 : 1 ≤ Builtin.Str.strKind x := by unfold Builtin.Str.strKind; split <;> first | omega | (split <;> omega)
  have e1 : (⟨#[32]⟩ : Str).length = 1 := rfl
  unfold Txt.split
  by_cases h : x.length < 1
  · rw [if_pos (by rw [Bool.or_eq_true]; left; exact decide_eq_true (by rw [e1]; exact h))]
    have : x.cps.toList = [] := List.eq_nil_of_length_eq_zero (by omega)
    have e : spl 32 x.cps.toList = [x.cps.toList] := by rw [this]; rfl
    rw [e, List.map_cons, whole]; rfl
  · rw [if_neg (by rw [Bool.or_eq_true]; intro z; rcases z with z | z
                   · have := of_decide_eq_true z; omega
                   · have := of_decide_eq_true z; omega)]
    rw [occ_pos]
    obtain ⟨g, t, e3, e4⟩ := parts_spl x 32 x.cps.toList 0 0 rfl (Nat.le_refl _) (Nat.zero_le _)
    rw [Nat.sub_zero, List.take_zero, List.nil_append] at e4
    split
    · rename_i hz
      have : pos 32 x.cps.toList 0 = [] := by simpa using hz
      rw [this] at e4
      have e5 : partsFrom x 1 0 [] = [strSub x 0 x.length] := rfl
      rw [e5, sub_whole] at e4
      rw [e3, List.map_cons]; exact e4
    · rw [partsBetween_eq, e1, e4, e3]; rfl
end TX
namespace L2
open PySem PySem.Spec PySem.Calls PyProof.Rows
def ItS (z : Str) : It := ⟨fun i _ => i < z.length, fun i H x H' => H' = H ∧ ∃ c, z.cps[i]? = some c ∧ x = .str ⟨#[c]⟩, fun i _ => z.length ≤ i⟩
theorem turn_str {P : Program} {w : World} {K : PySem.W.Frag} {tg : Expr} (z : Str) (t : Tok) (it : Addr) : Turn P w K tg (ItS z) [it] it (fun i h => h.IsStrIter it "str_ascii_iterator" z t i) where
  mem := by simp
  obj := fun i h st b hb => by
    have e : b = it := by simpa using hb
    rw [e]
    obtain ⟨o, e, c, d⟩ := st
    exact ⟨o, e, fun v y => by rw [d] at y; cases y⟩
  keep := fun i h h' st k => by
    obtain ⟨o, e, r⟩ := st
    exact ⟨o, k it (by simp) o e, r⟩
  item := by
    intro X hP hw hK hc i pins s σ H E I hf st hg
    subst hP hw hK
    have hg : i < z.length := hg
    have hx : z.cps[i]? = some z.cps[i] := Array.getElem?_eq_getElem (by exact hg)
    obtain ⟨f0, f1, f2, f3, f4, f5⟩ := hf it (by simp)
    refine wpAny_pyNext_ascii_item st hx fun h' st' sb => ?_
    have I1 : Inv X pins σ H { s with heap := h', toks := s.toks + 1 } := I.turned (t' := s.toks + 1) (fun b o hb e => (sb.2 b hb).trans e) f0 f1 f3 f4 f5
    obtain ⟨o, e, c, d⟩ := id st'
    exact ⟨_, rfl, go_of (s := { s with heap := h', toks := s.toks + 1 }) e c d (by decide) ⟨.str ⟨#[z.cps[i]]⟩, H, I1, ⟨_, rfl⟩, ⟨rfl, _, hx, rfl⟩, st', fun b hb => (hf b hb).1⟩⟩
  done := by
    intro X hP hw hK hc i pins s σ H E I hf st hg
    subst hP hw hK
    have hg : z.length ≤ i := hg
    obtain ⟨f0, f1, f2, f3, f4, f5⟩ := hf it (by simp)
    exact wpAny_pyNext_ascii_end (I.ok.hd hc) st (Array.getElem?_eq_none (by exact hg)) fun h' eb => ⟨rfl, I.turned (t' := s.toks) (fun b o hb e => eb b o hb e) f0 f1 f3 f4 f5⟩
  self := fun _ _ _ _ _ st h => wpAny_pyIter_striter_ascii st h
def iStr (tl : TE) : TI := fun σ H R => tl σ H fun x H1 => ∃ z, x = .str z ∧ z.cps.all (· < 128) = true ∧ R (ItS z) H1
section
variable {X : Cx}
theorem pi_str {tg l : Expr} {tl : TE} (hl : PE X l tl) : PI X tg l (iStr tl) := by
  intro pins s σ H R I h
  refine thn (hl pins s σ H _ I h) fun v s1 ⟨x, H1, I1, r1, q1⟩ => ?_
  obtain ⟨z, e, ha, q⟩ := q1
  subst e
  obtain ⟨t, rfl⟩ := r1
  refine wpAny_pyIter_ascii ha ⟨s1.heap.objs.size, [s1.heap.objs.size], _, _, H1, rfl, I1.kept (t' := s1.toks) fun b o e => Heap.get?_push_of_some _ e, turn_str z t _, ⟨_, Heap.get?_push_size _ rfl, rfl, rfl⟩, fun b hb => ?_, q⟩
  have e : b = s1.heap.objs.size := by simpa using hb
  rw [e]
  exact I1.fpOk (Nat.le_refl _) (I1.hok.fresh (Nat.le_refl _))
theorem comp_str {z : Str} {l : Addr} {g : TG} {tt : TT} {te : TE} {σ₀ : St} {H1 : Hp} {Q : Hp → Prop} (Pv : Nat → St → List V → Hp → Prop) (h0 : Pv 0 σ₀ [] (upd H1 l (.lst [])))
    (hs : ∀ i c σ ys H, z.cps[i]? = some c → Pv i σ ys H → g (.str ⟨#[c]⟩) σ H fun σ2 H2 => tt σ2 H2 fun b H3 =>
      if b = true then te σ2 H3 fun v H4 => H4 l = some (.lst ys) ∧ ys.length < sizeLine ∧ Pv (i + 1) σ2 (ys ++ [v]) (upd H4 l (.lst (ys ++ [v]))) else Pv (i + 1) σ2 ys H3)
    (hd : ∀ σ ys H, Pv z.length σ ys H → Q H) : tCompB l (ItS z) g tt te σ₀ H1 Q := by
  refine ⟨fun i m σ ys H => m = z.length - i ∧ i ≤ z.length ∧ Pv i σ ys H, ⟨z.length, by simp, Nat.zero_le _, h0⟩, ?_⟩
  rintro i m σ ys H ⟨rfl, hi, p⟩
  by_cases hlt : i < z.length
  · refine .inr ⟨hlt, Pv (i + 1), fun σ2 ys2 H2 q => ⟨z.length - (i + 1), by omega, rfl, hlt, q⟩, fun x H' y => ?_⟩
    obtain ⟨e, c, hc, rfl⟩ := y
    rw [e]
    exact hs i c σ ys _ hc p
  · have e : i = z.length := by omega
    rw [e] at p ⊢
    exact .inl ⟨Nat.le_refl _, hd σ ys H p⟩
def rIntT : List V → Hp → VK → Prop := fun xs H Q => ∃ (z : Str) (n : Int), xs = [.str z] ∧ PySem.intText? z = some n ∧ z.length ≤ 640 ∧ Q (.int n) H
theorem call_intT : CallR X (.type "int") rIntT := by
  intro pins s σ H xs us Q I r h
  obtain ⟨z, n, rfl, hn, hl, q⟩ := h
  obtain ⟨u, rfl, rx⟩ := vals1 r
  obtain ⟨t, rfl⟩ := rx
  exact PySem.W.KIN.call_text hn hl ⟨.int n, H, I.tok _, ⟨_, rfl⟩, q⟩
def rStarts : V → List V → Hp → VK → Prop := fun x vs H Q => ∃ z y, x = .str z ∧ vs = [.str y] ∧ Q (.bl (Txt.startswith z y)) H
theorem mt_starts : MtM X "str.startswith" rStarts := by
  intro pins s σ H x vs v us Q I rx rv h
  obtain ⟨z, y, rfl, rfl, q⟩ := h
  obtain ⟨t, rfl⟩ := rx
  obtain ⟨u, rfl, ru⟩ := rv.one
  obtain ⟨t2, rfl⟩ := ru
  exact call_meets F.slot_str_startswith (typeIs_str _ _ _) F.entry_str_startswith (F.args_str_startswith_2 _ _) (gives_str_startswith z y t t2).meets ⟨.bl _, H, I, rfl, q⟩
theorem strs_lie : ∀ {zs : List Str} {its : List Value}, Vals (zs.map V.str) its → ∃ l : List (Str × Tok), its = strValues l ∧ l.map (·.1) = zs
  | [], _, .nil => ⟨[], rfl, rfl⟩
  | z :: zs, _, .cons r t => by
    obtain ⟨tk, rfl⟩ := r
    obtain ⟨l, rfl, rfl⟩ := strs_lie t
    exact ⟨(z, tk) :: l, rfl, rfl⟩
theorem vals_strs : ∀ l : List (Str × Tok), Vals ((l.map (·.1)).map V.str) (strValues l)
  | [] => .nil
  | (z, t) :: l => .cons ⟨t, rfl⟩ (vals_strs l)
def rJoin (K : PySem.W.Frag) : V → List V → Hp → VK → Prop := fun x vs H Q => ∃ z p zs, x = .str z ∧ vs = [.ref p] ∧ SqL K H p (zs.map V.str) ∧ JoinOk z zs = true ∧ Q (.str (Txt.join z zs)) H
theorem mt_join : MtM X "str.join" (rJoin X.K) := by
  intro pins s σ H x vs v us Q I rx rv h
  obtain ⟨z, p, zs, rfl, rfl, hq, hok, q⟩ := h
  obtain ⟨t, rfl⟩ := rx
  obtain ⟨u, rfl, ru⟩ := rv.one
  cases ru
  obtain ⟨its, r', pl, _⟩ := I.list hq
  obtain ⟨l, rfl, hl⟩ := strs_lie r'
  exact SC.join pl.isList hl hok fun t' k => ⟨.str _, H, I.kept (t' := k) fun _ _ e => e, ⟨t', rfl⟩, q⟩
def rSplit : V → List V → Hp → VK → Prop := fun x vs H Q => ∃ z, x = .str z ∧ vs = [.str ⟨#[32]⟩] ∧ z.length ≤ 100000 ∧ ∀ l, H l = none → Q (.ref l) (upd H l (.lst ((Txt.split z ⟨#[32]⟩).map V.str)))
theorem mt_split : MtM X "str.split" rSplit := by
  intro pins s σ H x vs v us Q I rx rv h
  obtain ⟨z, rfl, rfl, hz, q⟩ := h
  obtain ⟨t, rfl⟩ := rx
  obtain ⟨u, rfl, ru⟩ := rv.one
  obtain ⟨t2, rfl⟩ := ru
  have q := q s.heap.objs.size (I.hok.fresh (Nat.le_refl _))
  have hzl : z.length ≤ sizeLine := by rw [sizeLine_eq]; omega
  have hlen : (Txt.split z ⟨#[32]⟩).length ≤ sizeLine := by
    have := split_le z ⟨#[32]⟩
    rw [sizeLine_eq]; omega
  have key : ∀ (l : List (Str × Tok)) (tk : Nat), l.map (·.1) = Txt.split z ⟨#[32]⟩ → EP X pins σ Q (.ref s.heap.objs.size) { s with heap := s.heap.push { cls := .type "list", data := .seq (strValues l).toArray }, toks := tk } := fun l tk e => by
    refine ⟨.ref s.heap.objs.size, _, I.laid (t' := tk) (fun b o eb => Heap.get?_push_of_some _ eb) (Nat.le_refl _) (show ObjOk X.prog X.w _ _ _ (.lst ((Txt.split z ⟨#[32]⟩).map V.str)) from ⟨by rw [List.length_map]; exact hlen, strValues l, 0, by rw [← e]; exact vals_strs l, Heap.get?_push_size _ rfl⟩), rfl, q⟩
  have hy : ((⟨#[32]⟩ : Str).length == 0) = false := rfl
  cases h1 : (decide (z.length < (⟨#[32]⟩ : Str).length) || decide (Builtin.Str.strKind z < Builtin.Str.strKind ⟨#[32]⟩)) with
  | true =>
    exact call_meets F.slot_str_split (typeIs_str _ _ _) F.entry_str_split (F.args_str_split_2 _ _) (meets_str_split_cannot_occur z ⟨#[32]⟩ t t2 h1) (key [(z, t)] s.toks (if_pos h1).symm)
  | false =>
    cases hf : (Builtin.Str.occurrences z ⟨#[32]⟩ 0 z.length (z.length + 1)).isEmpty with
    | true => exact call_meets F.slot_str_split (typeIs_str _ _ _) F.entry_str_split (F.args_str_split_2 _ _) (meets_str_split_not_found z ⟨#[32]⟩ t t2 h1 hy hf) (key [(z, t)] s.toks ((if_neg (ne_true_of_eq_false h1)).trans (if_pos hf)).symm)
    | false =>
      have e : Txt.split z ⟨#[32]⟩ = Builtin.Str.partsBetween z (Builtin.Str.occurrences z ⟨#[32]⟩ 0 z.length (z.length + 1)) (⟨#[32]⟩ : Str).length := (if_neg (ne_true_of_eq_false h1)).trans (if_neg (ne_true_of_eq_false hf))
      refine call_meets F.slot_str_split (typeIs_str _ _ _) F.entry_str_split (F.args_str_split_2 _ _) (meets_str_split_sep z ⟨#[32]⟩ t t2 h1 hy hf hzl (by rw [← e]; exact hlen)) ?_
      rw [strsFrom_eq]
      exact key (numbered s.toks _) _ ((numbered_texts _ _).trans e.symm)
end
end L2
namespace Law
open PySem L2 SA TX
open PySem.NumText (AllDigits digitsVal)
def digB (c : Nat) : Bool := decide (48 ≤ c ∧ c ≤ 57)
def wnL (l : List Nat) : Bool := decide (l ≠ []) && decide (l.head? ≠ some 48) && decide (l.length ≤ 3) && l.all digB
def wn (p : Str) : Bool := wnL p.cps.toList
def val (p : Str) : Int := ((digitsVal p.cps.toList : Nat) : Int)
theorem smallX {n : Nat} (h : n ≤ 1000000) : n < sizeLine := by rw [sizeLine_eq]; exact Nat.lt_of_le_of_lt h (by decide)
theorem len_toList (p : Str) : p.cps.toList.length = p.length := by simp [Str.length]
theorem digB_iff {c : Nat} : digB c = true ↔ 48 ≤ c ∧ c ≤ 57 := by unfold digB; simp
theorem all_digB {l : List Nat} (h : l.all digB = true) : AllDigits l := fun c hc => digB_iff.mp (List.all_eq_true.mp h c hc)
theorem wn_parts {p : Str} (h : wn p = true) : p.cps.toList ≠ [] ∧ p.cps.toList.head? ≠ some 48 ∧ p.length ≤ 3 ∧ p.cps.toList.all digB = true := by
  unfold wn wnL at h
  simp only [Bool.and_eq_true, decide_eq_true_eq] at h
  exact ⟨h.1.1.1, h.1.1.2, by rw [← len_toList]; exact h.1.2, h.2⟩
theorem wn_reads {p : Str} (h : wn p = true) : PySem.intText? p = some (val p) ∧ p.length ≤ 640 := by
  obtain ⟨h1, _, h3, h4⟩ := wn_parts h
  exact ⟨PySem.intText_digits (all_digB h4) h1 (by omega), by omega⟩
def figL (n : Int) : List Nat := (fig n).cps.toList
theorem fig_all : ∀ m : Nat, m < 401 → m = 0 ∨ (wnL ((Nat.toDigits 10 m).map Char.toNat) = true ∧ digitsVal ((Nat.toDigits 10 m).map Char.toNat) = m) := by decide +kernel
theorem figL_is {n : Int} (h1 : 1 ≤ n) (h2 : n ≤ 400) : wnL (figL n) = true ∧ ((digitsVal (figL n) : Nat) : Int) = n := by
  obtain ⟨m, rfl⟩ := Int.eq_ofNat_of_zero_le (show 0 ≤ n by omega)
  have e : figL (m : Int) = (Nat.toDigits 10 m).map Char.toNat := PySem.W.KIN.signs_num m
  rw [e]
  rcases fig_all m (by omega) with h | h
  · omega
  · exact ⟨h.1, by rw [h.2]⟩
theorem txtFrom_toList : ∀ (r : List Int) (acc : Str), (txtFrom acc r).cps.toList = acc.cps.toList ++ r.flatMap fun m => 32 :: figL m
  | [], acc => by simp [txtFrom]
  | m :: r, acc => by
    show (txtFrom (acc ++ Str.ofString " " ++ fig m) r).cps.toList = _
    rw [txtFrom_toList r, List.flatMap_cons]
    have e : (acc ++ Str.ofString " " ++ fig m).cps.toList = acc.cps.toList ++ (32 :: figL m) := by
      show ((acc.cps ++ (Str.ofString " ").cps) ++ (fig m).cps).toList = _
      rw [Array.toList_append, Array.toList_append, List.append_assoc]; rfl
    rw [e, List.append_assoc]
theorem txt_small : ∀ (r : List Int) (n : Int), (∀ m ∈ n :: r, 1 ≤ m ∧ m ≤ 400) → (txt (n :: r)).cps.all (· < 128) = true := by
  intro r n h
  have e : (txt (n :: r)).cps.toList = figL n ++ r.flatMap fun m => 32 :: figL m := txtFrom_toList r (fig n)
  have dig : ∀ m, 1 ≤ m ∧ m ≤ 400 → ∀ c ∈ figL m, c < 128 := fun m hm c hc => by
    have w := (figL_is hm.1 hm.2).1
    unfold wnL at w
    simp only [Bool.and_eq_true] at w
    have := digB_iff.mp (List.all_eq_true.mp w.2 c hc)
    omega
  rw [← Array.all_toList, e, List.all_eq_true]
  intro c hc
  rw [decide_eq_true_iff]
  rcases List.mem_append.mp hc with hc | hc
  · exact dig n (h n List.mem_cons_self) c hc
  · obtain ⟨m, hm, hc⟩ := List.mem_flatMap.mp hc
    rcases List.mem_cons.mp hc with hc | hc
    · omega
    · exact dig m (h m (List.mem_cons_of_mem _ hm)) c hc
theorem join_txt : ∀ (row : List Int), row ≠ [] → Txt.join (Str.ofString " ") (row.map fig) = txt row
  | n :: r, _ => by
    have key : ∀ (r : List Int) (acc : Str), (⟨(r.map fig).foldl (fun a p => a ++ (Str.ofString " ").cps ++ p.cps) acc.cps⟩ : Str) = txtFrom acc r := by
      intro r
      induction r with
      | nil => intro acc; rfl
      | cons m r ih => intro acc; exact ih (acc ++ Str.ofString " " ++ fig m)
    exact key r (fig n)
def spWn : Sp := fun vs H Q _ => ∃ (p : Str), vs = [.str p] ∧ p.length ≤ 100000 ∧ p.cps.all (· < 128) = true ∧ ∀ H', Same H H' → Q (.bl (wn p)) H'
def spNums : Sp := fun vs H Q _ => ∃ (z : Str), vs = [.str z] ∧ z.length ≤ 100000 ∧ z.cps.all (· < 128) = true ∧ (Txt.split z ⟨#[32]⟩).all wn = true ∧
  ∀ (l : Addr) (H' : Hp), H l = none → H' l = some (.lst (((Txt.split z ⟨#[32]⟩).map val).map V.int)) → Same H H' → Q (.ref l) H'
theorem split_small {z : Str} (h : z.cps.all (· < 128) = true) : ∀ p ∈ Txt.split z ⟨#[32]⟩, p.cps.all (· < 128) = true ∧ p.length ≤ z.length := by
  intro p hp
  have key : ∀ (l : List Nat) (p : List Nat), p ∈ spl 32 l → ∀ c ∈ p, c ∈ l := by
    intro l
    induction l with
    | nil => intro p hp c hc; have : p = [] := by simpa [spl] using hp
             rw [this] at hc; exact hc
    | cons a r ih =>
      intro p hp c hc
      rw [spl] at hp
      split at hp
      · rcases List.mem_cons.mp hp with e | hp
        · rw [e] at hc; simp at hc
        · exact List.mem_cons_of_mem _ (ih p hp c hc)
      · obtain ⟨g, t, e⟩ := spl_ne 32 r
        rw [e] at hp
        rcases List.mem_cons.mp hp with e2 | hp
        · rw [e2] at hc
          rcases List.mem_cons.mp hc with e3 | hc
          · rw [e3]; exact List.mem_cons_self
          · exact List.mem_cons_of_mem _ (ih g (by rw [e]; exact List.mem_cons_self) c hc)
        · exact List.mem_cons_of_mem _ (ih p (by rw [e]; exact List.mem_cons_of_mem _ hp) c hc)
  rw [split_spl] at hp
  obtain ⟨l, hl, rfl⟩ := List.mem_map.mp hp
  refine ⟨?_, ?_⟩
  · rw [← Array.all_toList, List.all_eq_true]
    intro c hc
    have hz : z.cps.toList.all (· < 128) = true := by rw [Array.all_toList]; exact h
    exact List.all_eq_true.mp hz c (key _ l hl c hc)
  · have := spl_part_len 32 _ l hl
    rw [len_toList] at this
    show (ofL l).length ≤ _
    rw [← len_toList]; exact this
end Law
namespace L2
open PySem PySem.Spec PySem.Calls PyProof.Rows
section
variable {X : Cx}
def rFind : V → List V → Hp → VK → Prop := fun x vs H Q => ∃ z y, x = .str z ∧ vs = [.str y] ∧ Q (.int (match Builtin.Str.occurrences z y 0 z.length 1 with | i :: _ => (i : Int) | [] => -1)) H
theorem mt_find : MtM X "str.find" rFind := by
  intro pins s σ H x vs v us Q I rx rv h
  obtain ⟨z, y, rfl, rfl, q⟩ := h
  obtain ⟨t, rfl⟩ := rx
  obtain ⟨u, rfl, ru⟩ := rv.one
  obtain ⟨t2, rfl⟩ := ru
  exact call_meets F.slot_str_find (typeIs_str _ _ _) F.entry_str_find (F.args_str_find_2 _ _) (gives_str_find z y t t2).meets ⟨.int _, H, I.tok _, ⟨_, rfl⟩, q⟩
theorem find_neg (z : Str) (c : Nat) : decide ((match Builtin.Str.occurrences z ⟨#[c]⟩ 0 z.length 1 with | i :: _ => (i : Int) | [] => -1) < 0) = !decide (c ∈ z.cps.toList) := by
  have h := StrLaws.found_one z c
  cases e : Builtin.Str.occurrences z ⟨#[c]⟩ 0 z.length 1 with
  | nil =>
    rw [e] at h
    rw [← h]; rfl
  | cons i r =>
    rw [e] at h
    rw [← h]
    exact decide_eq_false (by show ¬ ((i : Int) < 0); omega)
structure Piece (z z' : Str) : Prop where
  len : z'.length ≤ z.length
  mem : ∀ c ∈ z'.cps.toList, c ∈ z.cps.toList
theorem piece_pick (z : Str) (l : List Nat) : ∀ c ∈ l.filterMap (z.cps[·]?), c ∈ z.cps.toList := fun c hc => by
  obtain ⟨i, _, hi⟩ := List.mem_filterMap.mp hc
  rw [← Array.getElem?_toList] at hi
  exact List.mem_of_getElem? hi
def rSlS : V → Option Int → Option Int → Hp → VK → Prop := fun x _ _ H Q => ∃ z, x = .str z ∧ z.length ≤ sizeLine ∧ ∀ z', Piece z z' → Q (.str z') H
theorem sl_str : SlR X rSlS := by
  intro pins s σ H x v vl vu lo hi sl Q I rx hs pl pu h
  obtain ⟨z, rfl, hz, q⟩ := h
  obtain ⟨t, rfl⟩ := rx
  refine ⟨"str", _, F.slot_str_getitem.lookup, typeIs_str _ _ _, ?_⟩
  have key : ∀ (l u : Option (Int × Tok)), s.heap.IsSlice sl l u none → wpAny (model X.prog X.w) X.A (getItem (.str z t) (.ref sl)) (EP X pins σ Q) X.xe s := fun l u hsl => by
    refine wpAny_getItem_str_slice hsl rfl (post_val_or_str ⟨Nat.le_trans (Txt.slice_le z _ _) hz, fun t' k => ⟨.str _, H, I.kept (t' := k) fun _ _ e => e, ⟨t', rfl⟩, q _ ⟨Txt.slice_le z _ _, ?_⟩⟩⟩)
    split
    · exact fun c hc => hc
    · exact fun c hc => piece_pick z _ c (by simpa using hc)
  cases pl with
  | none =>
    cases pu with
    | none => exact key none none hs
    | int j tj => exact key none (some (j, tj)) hs
  | int i ti =>
    cases pu with
    | none => exact key (some (i, ti)) none hs
    | int j tj => exact key (some (i, ti)) (some (j, tj)) hs
def rMulS : R2 := fun x y H Q => ∃ z n, x = .str z ∧ y = .int n ∧ 2 ≤ n ∧ n ≤ 100 ∧ 1 ≤ z.length ∧ z.length ≤ 100 ∧ (⟨(List.replicate n.toNat z.cps).foldl (· ++ ·) #[]⟩ : Str).length ≤ sizeLine ∧ Q (.str ⟨(List.replicate n.toNat z.cps).foldl (· ++ ·) #[]⟩) H
theorem op_mulS : OpR X (binaryOp .Mult) rMulS := by
  intro pins s σ H x y v u Q I rx ry h
  obtain ⟨z, n, rfl, rfl, n1, n2, z1, z2, hlen, q⟩ := h
  obtain ⟨t, rfl⟩ := rx
  obtain ⟨t2, rfl⟩ := ry
  have h1 : ¬ n < 1 := by omega
  have h2 : (n == 1 || z.length == 0) = false := by
    rw [Bool.or_eq_false_iff]
    exact ⟨by simp; omega, by simp; omega⟩
  have hm : z.length * n.toNat ≤ 100 * 100 := Nat.mul_le_mul z2 (by omega)
  refine PySem.P.mul_str (by rw [decide_eq_false (by omega), decide_eq_false (by omega)]; rfl) (fun _ _ => ?_) (fun _ _ => decide_eq_false (by unfold sizeLine; omega)) ?_
  · have : (100 : Int) ≤ (2 ^ 63 - 1) / n := by
      have h3 : n * 100 ≤ 2 ^ 63 - 1 := by omega
      exact (Int.le_ediv_iff_mul_le (by omega)).mpr (by omega)
    omega
  · rw [if_neg h1, h2, if_neg (by decide)]
    exact ⟨hlen, .str _, H, I.tok _, ⟨_, rfl⟩, q⟩
theorem pe_bmK {K : PySem.W.Frag} (hK : X.K = K) {o e : Expr} {es : List Expr} {to : TE} {t : TA} {name : Str} {apos cpos : Pos} {T id : String} {r : V → List V → Hp → VK → Prop} (pa : PlainAttrs T) (slot : Slot T name id) (hty : typeOf (.builtin id) = pure (.type "method_descriptor")) (hm : MtR X id r) (ho : PE X o to) (ha : PA X (e :: es) t)
    (hbase : attributeBase o name X.env (eval o X.env) = eval o X.env := by rfl)
    (hfew : ((backTo cpos (starEach (e :: es) X.env)).all (fun x => !x.1) && (backToKw cpos (keywordEach [] X.env)).all (fun x => x.1.isSome)
      && decide ((e :: es).length + ([] : List Keyword).length + (if ([] : List Keyword).isEmpty then 0 else 1) < 30)) = true := by rfl)
    (hline : (apos.endLine == cpos.line) = true := by rfl) (hs : starEach (e :: es) X.env = (false, eval e X.env) :: starEach es X.env := by rfl) (hplain : (backTo cpos (starEach es X.env)).any (·.1) = false := by rfl) :
    PE X (.Call (.Attribute o name apos) (e :: es) [] cpos) (tBM K T r to t) := by
  subst hK
  exact pe_bm pa slot hty hm ho ha hbase hfew hline hs hplain
end
end L2
namespace Law
open PySem L2 SA TX
open PySem.NumText (AllDigits digitsVal)
def lgood (p : Str) : Bool := decide (p.cps.toList ≠ []) && decide (p.length ≤ 40) && decide (p.cps.toList.head? ≠ some 48) && p.cps.toList.all digB
def prts (z : Str) : List Str := Txt.split z ⟨#[32]⟩
noncomputable def dueT (z : Str) : Option (List Int) := if (prts z).all lgood = true ∧ isRowC ((prts z).map val) = true then some ((prts z).map val) else none
noncomputable def readT (z : Str) : Option (List Int) := if (prts z).all wn = true ∧ isRowC ((prts z).map val) = true then some ((prts z).map val) else none
theorem lgood_parts {p : Str} (h : lgood p = true) : p.cps.toList ≠ [] ∧ p.length ≤ 40 ∧ p.cps.toList.head? ≠ some 48 ∧ p.cps.toList.all digB = true := by
  unfold lgood at h
  simp only [Bool.and_eq_true, decide_eq_true_eq] at h
  exact ⟨h.1.1.1, h.1.1.2, h.1.2, h.2⟩
theorem wn_lgood {p : Str} (h : wn p = true) : lgood p = true := by
  obtain ⟨h1, h2, h3, h4⟩ := wn_parts h
  unfold lgood
  simp only [Bool.and_eq_true, decide_eq_true_eq]
  exact ⟨⟨⟨h1, by omega⟩, h2⟩, h4⟩
theorem digitsVal_ge : ∀ (l : List Nat) (acc : Nat), acc * 10 ^ l.length ≤ l.foldl (fun a c => a * 10 + (c - 48)) acc
  | [], acc => by simp
  | c :: r, acc => by
    rw [List.foldl_cons]
    refine Nat.le_trans ?_ (digitsVal_ge r (acc * 10 + (c - 48)))
    rw [List.length_cons, Nat.pow_succ, Nat.mul_comm (10 ^ r.length) 10, ← Nat.mul_assoc]
    exact Nat.mul_le_mul_right _ (by omega)
theorem lgood_big {p : Str} (h : lgood p = true) (hl : 4 ≤ p.length) : 1000 ≤ val p := by
  obtain ⟨h1, _, h3, h4⟩ := lgood_parts h
  have hlen := len_toList p
  unfold val
  match e : p.cps.toList, h1 with
  | c :: r, _ =>
    rw [e] at h3 h4 hlen
    have hc := digB_iff.mp (List.all_eq_true.mp h4 c List.mem_cons_self)
    have hc2 : c ≠ 48 := fun z => h3 (by rw [z]; rfl)
    have := digitsVal_ge r (0 * 10 + (c - 48))
    have hp : 10 ^ 3 ≤ 10 ^ r.length := Nat.pow_le_pow_right (by decide) (by rw [List.length_cons] at hlen; omega)
    have hm : 1 * 10 ^ 3 ≤ (0 * 10 + (c - 48)) * 10 ^ r.length := Nat.mul_le_mul (by omega) hp
    have : 1000 ≤ digitsVal (c :: r) := by
      show 1000 ≤ r.foldl (fun a c => a * 10 + (c - 48)) (0 * 10 + (c - 48))
      omega
    omega
theorem due_read (z : Str) : dueT z = readT z := by
  unfold dueT readT
  by_cases h : (prts z).all wn = true
  · have h2 : (prts z).all lgood = true := List.all_eq_true.mpr fun p hp => wn_lgood (List.all_eq_true.mp h p hp)
    simp only [h, h2]
  · have k : ¬ ((prts z).all lgood = true ∧ isRowC ((prts z).map val) = true) := fun y => h (List.all_eq_true.mpr fun p hp => by
      have hg := List.all_eq_true.mp y.1 p hp
      obtain ⟨s, s1, s4, hr⟩ := (isRowC_iff _).mp y.2
      have hm := hr.mem (val p) (List.mem_map_of_mem hp)
      obtain ⟨h1, h2, h3, h4⟩ := lgood_parts hg
      have hl : p.length ≤ 3 := by
        by_cases c : 4 ≤ p.length
        · have := lgood_big hg c; omega
        · omega
      unfold wn wnL
      simp only [Bool.and_eq_true, decide_eq_true_eq]
      exact ⟨⟨⟨h1, h3⟩, by rw [len_toList]; exact hl⟩, h4⟩)
    rw [if_neg k, if_neg (show ¬ ((prts z).all wn = true ∧ isRowC ((prts z).map val) = true) from fun y => h y.1)]
theorem lgood_reads {p : Str} (h : lgood p = true) : PySem.intText? p = some (val p) ∧ p.length ≤ 640 := by
  obtain ⟨h1, h2, _, h4⟩ := lgood_parts h
  exact ⟨PySem.intText_digits (all_digB h4) h1 (by omega), by omega⟩
def Plain (n : Nat) (z : Str) : Prop := z.length ≤ n ∧ z.cps.all (· < 128) = true
theorem plain_all {z : Str} : z.cps.all (· < 128) = true ↔ ∀ c ∈ z.cps.toList, c < 128 := by
  rw [← Array.all_toList, List.all_eq_true]
  constructor
  · intro h c hc; exact of_decide_eq_true (h c hc)
  · intro h c hc; exact decide_eq_true (h c hc)
theorem Plain.piece {n : Nat} {z z' : Str} (h : Plain n z) (p : Piece z z') : Plain n z' := ⟨Nat.le_trans p.len h.1, plain_all.mpr fun c hc => plain_all.mp h.2 c (p.mem c hc)⟩
theorem Plain.app {n m k : Nat} {z y : Str} (h : Plain n z) (h' : Plain m y) (hk : n + m ≤ k) : Plain k (z ++ y) := by
  refine ⟨?_, plain_all.mpr fun c hc => ?_⟩
  · rw [strLen_append]; have := h.1; have := h'.1; omega
  · have e : (z ++ y).cps.toList = z.cps.toList ++ y.cps.toList := by
      show (z.cps ++ y.cps).toList = _
      rw [Array.toList_append]
    rw [e] at hc
    rcases List.mem_append.mp hc with hc | hc
    · exact plain_all.mp h.2 c hc
    · exact plain_all.mp h'.2 c hc
theorem Plain.mono {n m : Nat} {z : Str} (h : Plain n z) (hk : n ≤ m) : Plain m z := ⟨Nat.le_trans h.1 hk, h.2⟩
theorem Plain.count {n : Nat} {z : Str} (h : Plain n z) : (prts z).length ≤ n + 2 := by
  have := PyProof.Rows.split_le z ⟨#[32]⟩
  have := h.1
  show (Txt.split z ⟨#[32]⟩).length ≤ _
  omega
def spSpoilT (K : PySem.W.Frag) : Sp := fun vs H Q _ => ∃ (a : Addr) (ns : List Int) (z : Str), vs = [.ref a, .str z] ∧ SqL K H a (ns.map V.int) ∧ Plain 200 z ∧ ∀ z' H', Plain 500 z' → Same H H' → Q (.str z') H'
def spDueT : Sp := fun vs H Q _ => ∃ (z : Str), vs = [.str z] ∧ Plain 500 z ∧ (dueT z = none → ∀ H', Same H H' → Q .non H') ∧ (∀ row, dueT z = some row → ∀ l H', H l = none → H' l = some (.lst (row.map V.int)) → Same H H' → Q (.ref l) H')
def spNumsE (C : Addr) : Sp := fun vs H _ E => ∃ (z : Str), vs = [.str z] ∧ Plain 500 z ∧ (prts z).all wn = false ∧ ∀ H', Same H H' → E (.ref C) none H'
def spReadE (C : Addr) : Sp := fun vs H _ E => ∃ (z : Str), vs = [.str z] ∧ Plain 500 z ∧ readT z = none ∧ ∀ H', Same H H' → E (.ref C) none H'
def spToldT : Sp := fun vs H Q _ => ∃ (z : Str), vs = [.str z] ∧ Plain 500 z ∧ (readT z = none → ∀ H', Same H H' → Q (.str "note") H') ∧ (∀ row, readT z = some row → ∀ l H', H l = none → H' l = some (.lst (row.map V.int)) → Same H H' → Q (.ref l) H')
end Law
namespace Law
open PySem L2 SA TX
theorem spl_sum (c : Nat) : ∀ l, ((spl c l).map List.length).sum ≤ l.length
  | [] => by simp [spl]
  | a :: r => by
    have ih := spl_sum c r
    unfold spl
    split
    · rw [List.map_cons, List.sum_cons, List.length_cons, List.length_nil]; omega
    · obtain ⟨h, t, e⟩ := spl_ne c r
      rw [e] at ih ⊢
      simp only [List.map_cons, List.sum_cons, List.length_cons] at ih ⊢; omega
theorem split_sum (z : Str) : ((Txt.split z ⟨#[32]⟩).map Str.length).sum ≤ z.length := by
  rw [split_spl, List.map_map]
  have := spl_sum 32 z.cps.toList
  rw [len_toList] at this
  have e : (spl 32 z.cps.toList).map (Str.length ∘ ofL) = (spl 32 z.cps.toList).map List.length := List.map_congr_left fun l _ => by
    show (ofL l).length = _
    rw [← len_toList]; rfl
  rw [e]; exact this
theorem join_plain {sep : Str} : ∀ (zs : List Str) (n m : Nat), (∀ z ∈ zs, z.cps.all (· < 128) = true) → sep.cps.all (· < 128) = true → sep.length ≤ 1 → (zs.map Str.length).sum ≤ n → zs.length ≤ m → Plain (n + m) (Txt.join sep zs)
  | [], n, m, _, _, _, _, _ => by
    have e : Txt.join sep [] = ⟨#[]⟩ := by with_unfolding_all rfl
    rw [e]
    exact ⟨Nat.zero_le _, by decide +kernel⟩
  | y :: r, n, m, hz, hs, h1, hn, hm => by
    have key : ∀ (r : List Str) (acc : Str) (k : Nat), Plain k acc → (∀ z ∈ r, z.cps.all (· < 128) = true) → Plain (k + (r.map Str.length).sum + r.length) ⟨r.foldl (fun a p => a ++ sep.cps ++ p.cps) acc.cps⟩ := by
      intro r
      induction r with
      | nil => intro acc k h _; exact h
      | cons p r ih =>
        intro acc k h hr
        have hp : Plain p.length p := ⟨Nat.le_refl _, hr p List.mem_cons_self⟩
        have hq := ih (acc ++ sep ++ p) (k + 1 + p.length) ((h.app ⟨h1, hs⟩ (Nat.le_refl _)).app hp (Nat.le_refl _)) fun z hz => hr z (List.mem_cons_of_mem _ hz)
        refine Plain.mono hq ?_
        rw [List.map_cons, List.sum_cons, List.length_cons]; omega
    have h := key r y y.length ⟨Nat.le_refl _, hz y List.mem_cons_self⟩ fun z hz' => hz z (List.mem_cons_of_mem _ hz')
    rw [List.map_cons, List.sum_cons] at hn
    rw [List.length_cons] at hm
    exact Plain.mono h (by omega)
theorem at_mod {ys : List V} {n : Nat} (c : Int) (e : ys.length = n) (h : 0 < n) : ∃ y, y ∈ ys ∧ atI ys (c % (n : Int)) = some y := by
  have h1 := Int.emod_nonneg c (b := (n : Int)) (by omega)
  have h2 := Int.emod_lt_of_pos c (b := (n : Int)) (by omega)
  obtain ⟨j, ej⟩ := Int.eq_ofNat_of_zero_le h1
  rw [ej]
  have hj : j < ys.length := by omega
  exact ⟨ys[j], List.getElem_mem hj, atI_nat (List.getElem?_eq_getElem hj)⟩
theorem at_modJ {n : Nat} (c : Int) (h : 0 < n) : ∃ j : Nat, c % (n : Int) = (j : Int) ∧ j < n := by
  have h1 := Int.emod_nonneg c (b := (n : Int)) (by omega)
  have h2 := Int.emod_lt_of_pos c (b := (n : Int)) (by omega)
  obtain ⟨j, ej⟩ := Int.eq_ofNat_of_zero_le h1
  exact ⟨j, ej, by omega⟩
def sgns : List Str := [" ", "0", "1", "2", "9", "-", "+", "_", ".", "\t", "\n", "a", ",", "4", "3", "8"]
theorem sgns_ok : ∀ y ∈ sgns.map V.str, ∃ z, y = V.str z ∧ Plain 1 z := fun y hy => by
  obtain ⟨z, hz, rfl⟩ := List.mem_map.mp hy
  have : ∀ z ∈ sgns, z.length ≤ 1 ∧ z.cps.all (· < 128) = true := by decide +kernel
  exact ⟨z, rfl, this z hz⟩
def nines : Str := ⟨(List.replicate (40 : Int).toNat (Str.ofString "9").cps).foldl (· ++ ·) #[]⟩
theorem nines_ok : Plain 40 nines := ⟨by decide +kernel, by decide +kernel⟩
def odds : List Str := ["", " ", "1", "1 1", "01 1", "1 1 ", " 1 1", "1  1"]
def oddz : List Str := ["1_1", "+1 1", "1 1\n", "2 2", "1 1 1 1", nines ++ Str.ofString " 1"]
theorem odds_ok : ∀ y ∈ odds.map V.str ++ oddz.map V.str, ∃ z, y = V.str z ∧ Plain 50 z := fun y hy => by
  rw [← List.map_append] at hy
  obtain ⟨z, hz, rfl⟩ := List.mem_map.mp hy
  have : ∀ z ∈ odds ++ oddz, z.length ≤ 50 ∧ z.cps.all (· < 128) = true := by decide +kernel
  exact ⟨z, rfl, this z hz⟩
end Law
namespace Law
open PySem L2
def top (i : Nat) : Stmt := PySem.Challenge.pw_sameapart_k11_read_or_refused.main.body.getD i (.Pass ⟨0, 0, 0, 0⟩)
abbrev s_found_places : Stmt := top 9
abbrev s_stands_well : Stmt := top 10
abbrev s_is_row : Stmt := top 11
abbrev s_writes_number : Stmt := top 14
abbrev s_numbers_of : Stmt := top 15
abbrev s_read : Stmt := top 16
abbrev s__law_cell_at : Stmt := top 18
abbrev s__law_draw : Stmt := top 19
abbrev s__law_is_row : Stmt := top 20
abbrev s__law_filled : Stmt := top 21
abbrev s__law_small_row : Stmt := top 22
abbrev s__law_word_of : Stmt := top 23
abbrev s__law_due : Stmt := top 24
abbrev s__law_told : Stmt := top 25
abbrev s__law_spoilt : Stmt := top 26
abbrev s_law : Stmt := top 27
end Law
namespace Law
open PySem L2 SA
seal PE PA PT PW PS PSs PG PGs PI PC PIfs PSet OpR UnR CallR IxR SlR PO
section
variable {P : Program} {w : World} {K : PySem.W.Frag} {mg : Str → Option Value} {base : Heap}
theorem sc_cell : FnScope ["script", "k"] ["script", "k"] (defScope s__law_cell_at) := ⟨rfl, rfl, rfl, by decide +kernel, rfl, by decide +kernel, by decide +kernel⟩
theorem ok_cell (D : Def K mg "_law_cell_at" s__law_cell_at ["script", "k"]) (B : Bn mg) : Cal P w K mg base 1 "_law_cell_at" ["script", "k"] (spCell K) := by
  refine D.ok sc_cell (fun vs H Q E h => ?_) (fun f cdv A outer s H vs Q E hr h => ?_)
  · obtain ⟨a, ns, k, rfl, _⟩ := h
    rfl
  · obtain ⟨a, ns, k, rfl, hS, q⟩ := h
    refine ⟨_, pss_cons (ps_if (pt_cmpR op_lt (pv 1) (pe_callB call_len_seq (by rfl) B.len PySem.boot_len (pa_cons (pv 0) pa_nil)) (nomark _)) (pss_one (ps_ret (pe_ix ix_list (pv 0) (pv 1) (fun _ _ => rfl)))) pss_nil)
      (pss_one (ps_ret pe_int)), ?_⟩
    refine ⟨_, rfl, _, rfl, a, _, rfl, .inl hS, _, _, rfl, rfl, _, rfl, ?_⟩
    refine ite2 (fun hc => ?_) (fun hc => ?_)
    · have hc := of_decide_eq_true hc
      rw [List.length_map] at hc
      have hk : k < ns.length := by omega
      refine ⟨_, rfl, _, rfl, a, _, _, _, rfl, rfl, hS, atI_nat (map_at (List.getElem?_eq_getElem hk)), ?_⟩
      rw [List.getD_eq_getElem?_getD, List.getElem?_eq_getElem hk] at q
      exact q
    · have hc : ¬ ((k : Int) < ((ns.map V.int).length : Int)) := fun z => hc (decide_eq_true z)
      rw [List.length_map] at hc
      rw [List.getD_eq_getElem?_getD, List.getElem?_eq_none (by omega)] at q
      exact q
end
end Law
namespace Law
open PySem L2 SA
seal PE PA PT PW PS PSs PG PGs PI PC PIfs PSet OpR UnR CallR IxR SlR PO
section
variable {P : Program} {w : World} {K : PySem.W.Frag} {mg : Str → Option Value} {base : Heap}
theorem sc_draw : FnScope ["cell", "k", "bound", "stir"] ["cell", "k", "bound"] (defScope s__law_draw) := ⟨rfl, rfl, rfl, by decide +kernel, rfl, by decide +kernel, by decide +kernel⟩
theorem ok_draw (D : Def K mg "_law_draw" s__law_draw ["cell", "k", "bound"]) : Cal P w K mg base 1 "_law_draw" ["cell", "k", "bound"] spDraw := by
  refine D.ok sc_draw (fun vs H Q E h => ?_) (fun f cdv A outer s H vs Q E hr h => ?_)
  · obtain ⟨c, k, b, rfl, _⟩ := h
    rfl
  · obtain ⟨c, k, b, rfl, hb, q⟩ := h
    refine ⟨_, pss_cons (ps_set (i := 3) sc_draw.nd rfl (Or.inl rfl) (pe_op op_mod (pe_op op_mul (pe_op op_add (pe_op op_add (pe_op op_mod (pv 0) pe_int) (pe_op op_mul pe_int (pv 1))) pe_int) pe_int) pe_int))
      (pss_cons (ps_set (i := 3) sc_draw.nd rfl (Or.inl rfl) (pe_op op_mod (pe_op op_mul (pv 3) (pv 3)) pe_int))
      (pss_cons (ps_set (i := 3) sc_draw.nd rfl (Or.inl rfl) (pe_op op_mod (pe_op op_mul (pe_op op_add (pv 3) (pe_op op_mul pe_int (pe_op op_add (pv 1) pe_int))) pe_int) pe_int))
      (pss_one (ps_ret (pe_op op_mod (pe_op op_fdiv (pv 3) pe_int) (pv 2)))))), ?_⟩
    refine ⟨_, rfl, _, _, rfl, rfl, (by show (0 : Int) < 2147483647; decide), _, rfl, _, _, rfl, rfl, .inl ⟨by decide, by decide⟩, _, _, rfl, rfl, _, _, rfl, rfl, _, _, rfl, rfl, .inr ⟨by decide, by decide⟩, _, _, rfl, rfl, (by show (0 : Int) < 2147483647; decide), ?_⟩
    have bd : ∀ x : Int, -(2 ^ 64) < x % 2147483647 ∧ x % 2147483647 < 2 ^ 64 := fun x => by omega
    refine ⟨_, rfl, _, rfl, _, _, rfl, rfl, .inl (bd _), _, _, rfl, rfl, (by show (0 : Int) < 2147483629; decide), ?_⟩
    refine ⟨_, rfl, _, rfl, _, _, rfl, rfl, _, _, rfl, rfl, .inl ⟨by decide, by decide⟩, _, _, rfl, rfl, _, _, rfl, rfl, .inr ⟨by decide, by decide⟩, _, _, rfl, rfl, (by show (0 : Int) < 2147483647; decide), ?_⟩
    refine ⟨_, rfl, _, _, rfl, rfl, ⟨by decide, by decide⟩, _, rfl, _, _, rfl, rfl, hb, ?_⟩
    exact q
end
end Law
namespace Law
open PySem L2 SA
seal PE PA PT PW PS PSs PG PGs PI PC PIfs PSet OpR UnR CallR IxR SlR PO
section
variable {P : Program} {w : World} {K : PySem.W.Frag} {mg : Str → Option Value} {base : Heap}
theorem sc_found : FnScope ["row", "found", "place", "number"] ["row"] (defScope s_found_places) := ⟨rfl, rfl, rfl, by decide +kernel, rfl, by decide +kernel, by decide +kernel⟩
theorem ok_found (D : Def K mg "found_places" s_found_places ["row"]) (B : Bn mg) : Cal P w K mg base 1 "found_places" ["row"] spFound := by
  refine D.ok sc_found (fun vs H Q E h => ?_) (fun f cdv A outer s H vs Q E hr h => ?_)
  · obtain ⟨a, row, rfl, _⟩ := h
    rfl
  · obtain ⟨a, row, rfl, hS, hl, q⟩ := h
    have hu := hu_of hr
    refine ⟨_, pss_cons (ps_set (i := 1) sc_found.nd rfl (Or.inl rfl) pe_dnewK)
      (pss_cons (ps_for PassesOwn.never rfl (pi_enum rfl B.enumerate PyProof.Rows.boot_enumerate (pa_cons (pv 0) pa_nil)) (pg_tup rfl (pgs_cons (pg_name (i := 2) sc_found.nd rfl (Or.inl rfl)) (pgs_cons (pg_name (i := 3) sc_found.nd rfl (Or.inl rfl)) pgs_nil)))
        (pss_cons (ps_if (pt_cmp (pc_dnotin hu (pv 3) (pv 1))) (pss_one (ps_dput hu (pv 1) (pv 3) (pe_lst pa_nil) rfl)) pss_nil)
        (pss_one (ps_expr (pe_bm PySem.F.plainAttrs_list PySem.F.slot_list_append PySem.F.type_list_append mt_append (pe_dget hu (pv 1) (pv 3) (fun _ _ => rfl)) (pa_cons (pv 2) pa_nil))))))
      (pss_one (ps_ret (pv 1)))), ?_⟩
    intro d hd
    refine ⟨_, rfl, a, rfl, ⟨_, by rw [upd_ne (ne_of_none hS hd)]; exact hS⟩, ?_⟩
    refine for_enum (K := K) (a := a) (xs := row.map V.int) (fun i σ H2 => ∃ kvs v1 v2, σ = [some (.ref a), some (.ref d), v1, v2] ∧ Found H H2 d (row.take i) kvs)
      ⟨[], none, none, rfl, found_nil hd⟩ (fun i σ H2 _ ⟨_, _, _, _, F⟩ => SqL.of (F.sm _ _ hS)) ?_ ?_
    · rintro i y σ H2 p hi ⟨kvs, v1, v2, rfl, F⟩ hp
      obtain ⟨x, hx, rfl⟩ := map_get hi
      have hil : i < row.length := (List.getElem?_eq_some_iff.mp hx).1
      have et : row.take (i + 1) = row.take i ++ [x] := by rw [List.take_add_one, hx]; rfl
      have el : (row.take i).length = i := by rw [List.length_take]; omega
      have F' : Found H (upd H2 p (.tup [.int i, .int x])) d (row.take i) kvs := F.upd_new hp
      refine ⟨p, _, rfl, SqT.of upd_same, rfl, _, _, rfl, _, _, rfl, rfl, ?_⟩
      refine ⟨_, rfl, _, rfl, d, _, rfl, DGet.k (k := Sum.inl x) F'.dc, _, rfl, ?_⟩
      by_cases hq : plc (row.take i) 0 x = []
      · have e0 := F'.no x hq
        rw [e0]
        refine iteT ⟨by show 0 ≤ sizeLine; exact Nat.zero_le _, fun l hl => ?_⟩
        have hz : H l = none := F'.sm.free hl
        have dl : d ≠ l := ne_of_none F'.dc hl
        refine ⟨_, rfl, _, rfl, d, _, rfl, DPut.k (k := Sum.inl x) (by rw [upd_ne dl]; exact F'.dc) (small1000 (by have := F'.ln; omega)), ?_⟩
        refine ⟨_, rfl, _, rfl, d, .ref l, rfl, ?_, .inl ⟨rfl, _, SqL.of (by rw [upd_ne (Ne.symm dl), upd_same])⟩, _, rfl, l, _, _, rfl, rfl, by rw [upd_ne (Ne.symm dl), upd_same], by show 0 < sizeLine; rw [sizeLine_eq]; decide, ?_⟩
        · have := DGet.k (H := upd (upd (upd H2 p (.tup [.int i, .int x])) l (.lst [])) d (.dK (putK kvs (Sum.inl x) (.ref l)))) (a := d) (k := (Sum.inl x : Key)) upd_same
          rw [valV_put, if_pos rfl] at this
          exact this
        · refine ⟨putK kvs (Sum.inl x) (.ref l), _, _, rfl, ?_⟩
          rw [et]
          have := F'.put (l := l) hq hl hz
          rw [el] at this
          exact this
      · obtain ⟨l, h1, h2, h3⟩ := F'.ye x hq
        rw [h1]
        refine iteF ?_
        refine ⟨_, rfl, _, rfl, d, .ref l, rfl, ?_, .inl ⟨rfl, _, SqL.of h3⟩, _, rfl, l, _, _, rfl, rfl, h3, ?_, ?_⟩
        · have := DGet.k (H := upd H2 p (.tup [.int i, .int x])) (a := d) (k := (Sum.inl x : Key)) F'.dc
          rw [h1] at this
          exact this
        · rw [List.length_map, plc_length]
          exact small1000 (Nat.le_trans List.count_le_length (by omega))
        · refine ⟨kvs, _, _, rfl, ?_⟩
          rw [et]
          have := F'.app hq h1
          rw [el] at this
          exact this
    · rintro σ H2 ⟨kvs, v1, v2, rfl, F⟩
      rw [List.length_map, List.take_length] at F
      exact ⟨_, rfl, q d kvs H2 F⟩
end
end Law
namespace Law
open PySem L2 SA
seal PE PA PT PW PS PSs PG PGs PI PC PIfs PSet OpR UnR CallR IxR SlR PO
section
variable {P : Program} {w : World} {K : PySem.W.Frag} {mg : Str → Option Value} {base : Heap}
theorem sc_sw : FnScope ["number", "some"] ["number", "some"] (defScope s_stands_well) := ⟨rfl, rfl, rfl, by decide +kernel, rfl, by decide +kernel, by decide +kernel⟩
theorem ok_sw (D : Def K mg "stands_well" s_stands_well ["number", "some"]) (B : Bn mg) : Cal P w K mg base 1 "stands_well" ["number", "some"] (spSw K) := by
  refine D.ok sc_sw (fun vs H Q E h => ?_) (fun f cdv A outer s H vs Q E hr h => ?_)
  · obtain ⟨a, n, ps, rfl, _⟩ := h
    rfl
  · obtain ⟨a, n, ps, rfl, hS, q⟩ := h
    refine ⟨_, pss_one (ps_ret (pe_and (pe_cmpR op_eq (pe_callB call_len_seq (by rfl) B.len PySem.boot_len (pa_cons (pv 1) pa_nil)) pe_int (nomark _))
      (pe_one (pe_cmpR op_eq (pe_op op_sub (pe_ix ix_list (pv 1) pe_int (fun _ _ => rfl)) (pe_ix ix_list (pv 1) pe_int (fun _ _ => rfl))) (pv 0) (nomark _))))), ?_⟩
    refine ⟨_, rfl, a, _, rfl, .inl hS, rfl, _, rfl, ?_⟩
    refine ite2 (fun hc => ?_) (fun hc => ?_)
    · have hc : ps.length = 2 := by
        have := of_decide_eq_true hc
        simp at this
        omega
      match ps, hc with
      | [p, r], _ =>
        refine ⟨_, rfl, a, _, _, .int r, rfl, rfl, hS, atI_nat (j := 1) rfl, _, rfl, a, _, _, .int p, rfl, rfl, hS, atI_nat (j := 0) rfl, _, _, rfl, rfl, _, rfl, rfl, ?_⟩
        have e : decide (V.int (r - p) = V.int n) = decide (r - p = n) := by
          apply decide_eq_decide.mpr
          constructor
          · intro h; injection h
          · intro h; rw [h]
        first
          | exact q
          | (rw [e]; exact q)
    · have hc : ps.length ≠ 2 := fun z => hc (by simp [z])
      match ps, hc with
      | [], _ => exact q
      | [_], _ => exact q
      | [_, _], hc => exact absurd rfl hc
      | _ :: _ :: _ :: _, _ => exact q
end
end Law
namespace Law
open PySem L2 SA
seal PE PA PT PW PS PSs PG PGs PI PC PIfs PSet OpR UnR CallR IxR SlR PO
section
variable {P : Program} {w : World} {K : PySem.W.Frag} {mg : Str → Option Value} {base : Heap}
theorem sc_isRow : FnScope ["row", "size", "found"] ["row"] (defScope s_is_row) := ⟨rfl, rfl, rfl, by decide +kernel, rfl, by decide +kernel, by decide +kernel⟩
theorem ok_isRow {tk : Tok} (D : Def K mg "is_row" s_is_row ["row"]) (B : Bn mg) (hG : mg "GREATEST" = some (.int 400 tk)) (C1 : Cal P w K mg base 1 "found_places" ["row"] spFound) (C2 : Cal P w K mg base 1 "stands_well" ["number", "some"] (spSw K)) :
    Cal P w K mg base 2 "is_row" ["row"] spIsRow := by
  refine D.ok sc_isRow (fun vs H Q E h => ?_) (fun f cdv A outer s H vs Q E hr h => ?_)
  · obtain ⟨a, row, rfl, _⟩ := h
    rfl
  · obtain ⟨a, row, rfl, hS, hl, q⟩ := h
    have hu := hu_of hr
    refine ⟨_, pss_cons (ps_set (i := 1) sc_isRow.nd rfl (Or.inl rfl) (pe_op op_fdiv (pe_callB call_len_seq (by rfl) B.len PySem.boot_len (pa_cons (pv 0) pa_nil)) pe_int))
      (pss_cons (ps_if (PW.pt (pw_or (pt_cmpR op_ne (pe_callB call_len_seq (by rfl) B.len PySem.boot_len (pa_cons (pv 0) pa_nil)) (pe_op op_mul pe_int (pv 1)) (nomark _))
          (pw_or (pt_cmpR op_lt (pv 1) pe_int (nomark _)) (pw_or1 (pt_cmpR op_gt (pv 1) (pe_glob (v := .int 400) (by rfl) hG ⟨_, rfl⟩) (nomark _)))))) (pss_one (ps_ret pe_bl)) pss_nil)
      (pss_cons (ps_set (i := 2) sc_isRow.nd rfl (Or.inr rfl) (pe_fn C1 hr (pa_cons (pv 0) pa_nil)))
      (pss_one (ps_ret (pe_callB (call_all rfl) (by rfl) B.all PyProof.Rows.boot_all (pa_cons
        (pe_comp (T := ["number"]) (F := [("found", 2)]) rfl ⟨rfl, by decide +kernel, by decide +kernel, rfl, ⟨⟨rfl, rfl, by decide +kernel, rfl⟩, trivial⟩⟩ (pi_range2 rfl B.range (pa_cons pe_int (pa_cons (pe_op op_add (pv 1) pe_int) pa_nil)))
          (fun C s' H' fp => ⟨pg_name (i := 0) (show List.Nodup [("number" : Str), "found"] from by decide +kernel) rfl (Or.inl rfl), pifs_nil,
            pe_fn C2 hr (pa_cons (pv 0) (pa_cons (pe_dget2 hu (pv 1) (pv 0) (pe_lst pa_nil) ⟨rfl, rfl, rfl, rfl⟩) pa_nil))⟩)) pa_nil)))))), ?_⟩
    have el : (((row.map V.int).length : Nat) : Int) = (row.length : Int) := by rw [List.length_map]
    refine ⟨_, rfl, a, _, rfl, .inl (SqL.of hS), _, _, rfl, rfl, ⟨by decide, by decide⟩, ?_⟩
    refine ⟨_, rfl, a, _, rfl, .inl (SqL.of hS), _, rfl, _, _, rfl, rfl, .inl ⟨by decide, by decide⟩, rfl, _, rfl, ?_⟩
    rw [el]
    have no : ¬ IsRow row → Q (.bl false) H := fun h => by
      have e : isRowC row = false := by
        cases e : isRowC row with
        | false => rfl
        | true => exact absurd ((isRowC_iff row).mp e) h
      rw [← e]; exact q H (Same.refl H)
    refine ite2 (fun hc => ?_) (fun hc => ?_)
    · have hc : ¬ (row.length : Int) = 2 * ((row.length : Int) / 2) := by simpa using hc
      exact iteT (no fun h => hc ((isRow_iff row).mp h).1)
    have hc1 : (row.length : Int) = 2 * ((row.length : Int) / 2) := by simpa using hc
    refine ⟨_, rfl, _, _, rfl, rfl, _, rfl, ?_⟩
    refine ite2 (fun hc => ?_) (fun hc => ?_)
    · have hc : (row.length : Int) / 2 < 1 := by simpa using hc
      exact iteT (no fun h => by have := (isRow_iff row).mp h; omega)
    have hc2 : ¬ (row.length : Int) / 2 < 1 := by simpa using hc
    refine ⟨_, rfl, _, _, rfl, rfl, _, rfl, ?_⟩
    refine ite2 (fun hc => ?_) (fun hc => ?_)
    · have hc : (row.length : Int) / 2 > 400 := by simpa using hc
      exact (no fun h => by have := (isRow_iff row).mp h; omega)
    have hc3 : ¬ (row.length : Int) / 2 > 400 := by simpa using hc
    refine ⟨_, rfl, a, row, rfl, hS, hl, fun d kvs H2 F => ?_⟩
    refine ⟨_, rfl, _, _, rfl, rfl, 1, (row.length : Int) / 2 + 1, rfl, ⟨by omega, by omega, by omega, by omega⟩, fun l hn => ?_⟩
    have en : ((row.length : Int) / 2 + 1 - 1).toNat = row.length / 2 := by omega
    rw [en]
    refine comp_range (lo := 1) (n := row.length / 2) (fun i σ ys H3 => ∃ v, σ = [v, some (.ref d)] ∧ Found H H3 d row kvs ∧ H3 l = some (.lst ys) ∧ ys = ((List.range i).map fun (k : Nat) => sw (1 + (k : Int)) (plc row 0 (1 + (k : Int)))).map V.bl)
      ⟨none, rfl, F.upd_new hn, upd_same, rfl⟩ ?_ ?_
    · rintro i σ ys H3 hi ⟨v, rfl, F3, hl3, rfl⟩
      refine comp_yes ?_
      refine ⟨_, rfl, _, rfl, d, rfl, .inl ⟨kvs, .inl F3.dc⟩, _, rfl, by show 0 ≤ sizeLine; exact Nat.zero_le _, fun p hp => ?_⟩
      have F4 : Found H (upd H3 p (.lst [])) d row kvs := F3.upd_new hp
      have hl4 : upd H3 p (.lst []) l = some (.lst (((List.range i).map fun (k : Nat) => sw (1 + (k : Int)) (plc row 0 (1 + (k : Int)))).map V.bl)) := by rw [upd_ne (ne_of_none hl3 hp)]; exact hl3
      have hz : (((List.range i).map fun (k : Nat) => sw (1 + (k : Int)) (plc row 0 (1 + (k : Int)))).map V.bl).length < sizeLine := by
        rw [List.length_map, List.length_map, List.length_range]; exact small1000 (by omega)
      have ey : (((List.range i).map fun (k : Nat) => sw (1 + (k : Int)) (plc row 0 (1 + (k : Int)))).map V.bl) ++ [V.bl (sw (1 + (i : Int)) (plc row 0 (1 + (i : Int))))] = ((List.range (i + 1)).map fun (k : Nat) => sw (1 + (k : Int)) (plc row 0 (1 + (k : Int)))).map V.bl := by
        rw [List.range_succ, List.map_append, List.map_append]; rfl
      have F5 : ∀ ys', Found H (upd (upd H3 p (.lst [])) l (.lst ys')) d row kvs := fun ys' => by
        have nl : ∀ b o, F4.dc = F4.dc → H b = some o → b ≠ l := fun b o _ e => ne_of_none e (F.sm.free hn)
        refine ⟨?_, F4.nd, fun b o e => ?_, F4.no, fun n hn' => ?_, F4.ij, F4.ln⟩
        · rw [upd_ne (ne_of F4.dc hl4 (by intro z; cases z))]; exact F4.dc
        · rw [upd_ne (nl b o rfl e)]; exact F4.sm b o e
        · obtain ⟨l2, g1, g2, g3⟩ := F.ye n hn'
          obtain ⟨l3, k1, k2, k3⟩ := F4.ye n hn'
          rw [g1] at k1
          have e : l2 = l3 := by simpa using k1
          subst e
          exact ⟨l2, g1, g2, by rw [upd_ne (ne_of_none g3 hn)]; exact k3⟩
      have hg := DGet.k (k := (Sum.inl (1 + (i : Int)) : Key)) F4.dc
      by_cases hq : plc row 0 (1 + (i : Int)) = []
      · rw [F4.no _ hq] at hg
        refine ⟨_, hg, p, _, [], rfl, SqL.of upd_same, hl4, hz, ?_⟩
        rw [hq] at ey
        refine ⟨_, rfl, F5 _, upd_same, ?_⟩
        exact ey
      · obtain ⟨l2, g1, g2, g3⟩ := F4.ye _ hq
        rw [g1] at hg
        refine ⟨_, hg, l2, _, plc row 0 (1 + (i : Int)), rfl, SqL.of g3, hl4, hz, ?_⟩
        exact ⟨_, rfl, F5 _, upd_same, ey⟩
    · rintro σ ys H3 ⟨v, rfl, F3, hl3, rfl⟩
      refine ⟨l, _, rfl, SqL.of hl3, ?_⟩
      rw [isRow_bool row hc1 (by omega) (by omega)]
      exact q H3 F3.sm
end
end Law
namespace Law
open PySem L2 SA
seal PE PA PT PW PS PSs PG PGs PI PC PIfs PSet OpR UnR CallR IxR SlR PO
section
variable {P : Program} {w : World} {K : PySem.W.Frag} {mg : Str → Option Value} {base : Heap}
theorem sc_lir : FnScope ["row", "size", "first", "both", "place", "number"] ["row"] (defScope s__law_is_row) := ⟨rfl, rfl, rfl, by decide +kernel, rfl, by decide +kernel, by decide +kernel⟩
theorem ok_lir (D : Def K mg "_law_is_row" s__law_is_row ["row"]) (B : Bn mg) : Cal P w K mg base 1 "_law_is_row" ["row"] spLIR := by
  refine D.ok sc_lir (fun vs H Q E h => ?_) (fun f cdv A outer s H vs Q E hr h => ?_)
  · obtain ⟨a, row, rfl, _⟩ := h
    rfl
  · obtain ⟨a, row, rfl, hS, hl, q⟩ := h
    have hu := hu_of hr
    refine ⟨_, pss_cons (ps_set (i := 1) sc_lir.nd rfl (Or.inl rfl) (pe_op op_fdiv (pe_callB call_len_seq (by rfl) B.len PySem.boot_len (pa_cons (pv 0) pa_nil)) pe_int))
      (pss_cons (ps_if (PW.pt (pw_or (pt_cmpR op_eq (pe_op op_mod (pe_callB call_len_seq (by rfl) B.len PySem.boot_len (pa_cons (pv 0) pa_nil)) pe_int) pe_int (nomark _)) (pw_or (pt_cmpR op_lt (pv 1) pe_int (nomark _)) (pw_or1 (pt_cmpR op_gt (pv 1) pe_int (nomark _)))))) (pss_one (ps_ret pe_bl)) pss_nil)
      (pss_cons (ps_set (i := 2) sc_lir.nd rfl (Or.inl rfl) pe_dnewK)
      (pss_cons (ps_set (i := 3) sc_lir.nd rfl (Or.inl rfl) pe_dnewK)
      (pss_cons (ps_for PassesOwn.never rfl (pi_range1 rfl B.range (pa_cons (pe_callB call_len_seq (by rfl) B.len PySem.boot_len (pa_cons (pv 0) pa_nil)) pa_nil)) (pg_name (i := 4) sc_lir.nd rfl (Or.inl rfl))
        (pss_cons (ps_set (i := 5) sc_lir.nd rfl (Or.inl rfl) (pe_ix ix_list (pv 0) (pv 4) (fun _ _ => rfl)))
        (pss_cons (ps_if (PW.pt (pw_or (pt_cmpR op_lt (pv 5) pe_int (nomark _)) (pw_or (pt_cmpR op_gt (pv 5) (pv 1) (nomark _)) (pw_or1 (pt_cmp (pc_din hu (pv 5) (pv 3))))))) (pss_one (ps_ret pe_bl)) pss_nil)
        (pss_one (ps_if (pt_cmp (pc_dnotin hu (pv 5) (pv 2))) (pss_one (ps_dput hu (pv 2) (pv 5) (pv 4) rfl))
          (pss_one (ps_if (pt_cmpR op_ne (pe_op op_sub (pv 4) (pe_dget hu (pv 2) (pv 5) (fun _ _ => rfl))) (pv 5) (nomark _)) (pss_one (ps_ret pe_bl)) (pss_one (ps_dput hu (pv 3) (pv 5) pe_bl rfl)))))))))
      (pss_one (ps_ret (pe_cmpR op_eq (pe_callB call_lenD (by rfl) B.len PySem.boot_len (pa_cons (pv 3) pa_nil)) (pv 1) (nomark _)))))))), ?_⟩
    have el : (((row.map V.int).length : Nat) : Int) = (row.length : Int) := by rw [List.length_map]
    refine ⟨_, rfl, a, _, rfl, .inl (SqL.of hS), _, _, rfl, rfl, ⟨by decide, by decide⟩, ?_⟩
    refine ⟨_, rfl, a, _, rfl, .inl (SqL.of hS), _, _, rfl, rfl, (by show (0 : Int) < 2; decide), rfl, _, rfl, ?_⟩
    rw [el]
    have no : ¬ IsRow row → Q (.bl false) H := fun h => by rw [← isRowC_false h]; exact q H (Same.refl H)
    refine ite2 (fun hc => ?_) (fun hc => ?_)
    · have hc : (row.length : Int) % 2 = 1 := by simpa using hc
      exact iteT (no fun h => by have := (isRow_iff row).mp h; omega)
    have hc1 : ¬ (row.length : Int) % 2 = 1 := by simpa using hc
    refine ⟨_, rfl, _, _, rfl, rfl, _, rfl, ?_⟩
    refine ite2 (fun hc => ?_) (fun hc => ?_)
    · have hc : (row.length : Int) / 2 < 1 := by simpa using hc
      exact iteT (no fun h => by have := (isRow_iff row).mp h; omega)
    have hc2 : ¬ (row.length : Int) / 2 < 1 := by simpa using hc
    refine ⟨_, rfl, _, _, rfl, rfl, _, rfl, ?_⟩
    refine ite2 (fun hc => ?_) (fun hc => ?_)
    · have hc : (row.length : Int) / 2 > 400 := by simpa using hc
      exact (no fun h => by have := (isRow_iff row).mp h; omega)
    have hc3 : ¬ (row.length : Int) / 2 > 400 := by simpa using hc
    intro d1 hd1 d2 hd2
    have ne12 : d1 ≠ d2 := fun e => by subst e; rw [upd_same] at hd2; cases hd2
    have hd2' : H d2 = none := by rw [upd_ne (Ne.symm ne12)] at hd2; exact hd2
    have hS1 : upd (upd H d1 (.dK [])) d2 (.dK []) a = some (.lst (row.map V.int)) := by rw [upd_ne (ne_of_none hS hd2'), upd_ne (ne_of_none hS hd1)]; exact hS
    obtain ⟨sz, hsz⟩ : ∃ sz : Nat, row.length = 2 * sz := ⟨row.length / 2, by omega⟩
    have esz : (row.length : Int) / 2 = (sz : Int) := by omega
    rw [show (fun (i j : Int) => V.int (i / j)) (row.length : Int) 2 = V.int (sz : Int) from congrArg V.int esz]
    refine ⟨_, rfl, a, _, rfl, .inl (SqL.of hS1), _, rfl, by rw [el]; omega, by rw [el]; omega, ?_⟩
    have et : (((row.map V.int).length : Nat) : Int).toNat = row.length := by rw [el]; omega
    rw [et]
    refine for_range (lo := 0) (n := row.length) (fun i σ H2 => ∃ k1 k2 v4 v5, σ = [some (.ref a), some (.int sz), some (.ref d1), some (.ref d2), v4, v5] ∧ Looked H H2 a d1 d2 row (row.take i) k1 k2 ∧ Fine sz (row.take i))
      ⟨[], [], none, none, rfl, ⟨fun b o e => ?_, ?_, upd_same, fun n _ => rfl, fun n p r e => ?_, fun n _ => rfl, fun n h => ?_, List.nodup_nil, fun k hk => ?_, Nat.le_refl _, Nat.le_refl _⟩, fine_nil _⟩ ?_ ?_
    · rw [upd_ne (ne_of_none e hd2'), upd_ne (ne_of_none e hd1)]; exact e
    · rw [upd_ne ne12, upd_same]
    · simp [plc] at e
    · simp [plc] at h
    · simp at hk
    · rintro i σ H2 hi ⟨k1, k2, v4, v5, rfl, L, F⟩
      have hx := List.getElem?_eq_getElem hi
      generalize row[i] = x at hx
      have et : row.take (i + 1) = row.take i ++ [x] := by rw [List.take_add_one, hx]; rfl
      have eln : (row.take i).length = i := by rw [List.length_take]; omega
      have ex : row = row.take i ++ x :: row.drop (i + 1) := by
        have := List.take_append_drop (i + 1) row
        rw [et, List.append_assoc, List.singleton_append] at this
        exact this.symm
      have no2 : (¬ ((1 ≤ x ∧ x ≤ (sz : Int)) ∧ (plc (row.take i) 0 x = [] ∨ ∃ p, plc (row.take i) 0 x = [p] ∧ ((row.take i).length : Int) - p = x))) → Q (.bl false) H2 := fun h => by
        rw [← isRowC_false (row := row) fun hr => h ?_]
        · exact q H2 L.sm
        · have := isRow_size hsz hr
          rw [ex] at this
          exact this.turn
      have e0 : (0 : Int) + (i : Int) = (i : Int) := by omega
      rw [e0]
      refine ⟨_, rfl, _, rfl, a, _, _, _, rfl, rfl, SqL.of (L.sm _ _ hS), atI_nat (map_at hx), ?_⟩
      refine ⟨_, rfl, _, _, rfl, rfl, _, rfl, ?_⟩
      refine ite2 (fun hc => ?_) (fun hc => ?_)
      · have hc : x < 1 := by simpa using hc
        exact iteT (no2 fun h => by omega)
      have g1 : ¬ x < 1 := by simpa using hc
      refine ⟨_, rfl, _, rfl, _, _, rfl, rfl, _, rfl, ?_⟩
      refine ite2 (fun hc => ?_) (fun hc => ?_)
      · have hc : x > (sz : Int) := by simpa using hc
        exact iteT (no2 fun h => by omega)
      have g2 : ¬ x > (sz : Int) := by simpa using hc
      refine ⟨_, rfl, _, rfl, d2, _, rfl, DGet.k (k := Sum.inl x) L.h2, _, rfl, ?_⟩
      rcases F.two x with z | ⟨p, z⟩ | ⟨p, z⟩
      · rw [L.b0 x (by rw [z]; simp)]
        refine iteF ?_
        refine ⟨_, rfl, _, rfl, d1, _, rfl, DGet.k (k := Sum.inl x) L.h1, _, rfl, ?_⟩
        rw [L.n0 x z]
        refine iteT ?_
        refine ⟨_, rfl, _, rfl, _, rfl, d1, _, rfl, DPut.k (k := Sum.inl x) L.h1 (small1000 (by have := L.l1; omega)), ?_⟩
        have hd1' : H d1 = none := hd1
        rcases L.first hd1' z with L' | e
        · rw [eln] at L'
          exact ⟨_, _, _, _, rfl, by rw [et]; exact L', by rw [et]; exact F.add_new ⟨by omega, by omega⟩ z⟩
        · exact absurd e ne12
      · rw [L.b0 x (by rw [z]; simp)]
        refine iteF ?_
        refine ⟨_, rfl, _, rfl, d1, _, rfl, DGet.k (k := Sum.inl x) L.h1, _, rfl, ?_⟩
        rw [L.n1 x p [] z]
        refine iteF ?_
        have hg : DGet H2 d1 (.int x) (some (.int p)) := by
          have := DGet.k (k := (Sum.inl x : Key)) L.h1
          rw [L.n1 x p [] z] at this
          exact this
        refine ⟨_, rfl, _, rfl, _, rfl, d1, _, rfl, hg, _, _, rfl, rfl, _, rfl, rfl, _, rfl, ?_⟩
        refine ite2 (fun hc => ?_) (fun hc => ?_)
        · have hc : ¬ (i : Int) - p = x := by simpa using hc
          refine no2 fun h => ?_
          rcases h.2 with h | ⟨p', h, h'⟩
          · rw [z] at h; cases h
          · rw [z] at h; injection h with h _; rw [eln] at h'; omega
        · have hc : (i : Int) - p = x := by simpa using hc
          refine ⟨_, rfl, _, rfl, d2, _, rfl, DPut.k (k := Sum.inl x) L.h2 (small1000 (by have := L.l2; omega)), ?_⟩
          exact ⟨_, _, _, _, rfl, by rw [et]; exact L.both hd2' ne12 z, by rw [et]; exact F.add_two ⟨by omega, by omega⟩ z (by rw [eln]; exact hc)⟩
      · rw [L.b1 x (by rw [z]; simp)]
        refine iteT (no2 fun h => ?_)
        rcases h.2 with h | ⟨p', h, _⟩
        · rw [z] at h; cases h
        · rw [z] at h; cases h
    · rintro σ H2 ⟨k1, k2, v4, v5, rfl, L, F⟩
      rw [List.take_length] at L F
      refine ⟨_, rfl, d2, _, rfl, L.h2, _, rfl, rfl, ?_⟩
      have e := looked_end L F hsz
      have e2 : decide (V.int (k2.length : Int) = V.int (sz : Int)) = isRowC row := by
        rw [Bool.eq_iff_iff, isRowC_iff, decide_eq_true_iff]
        constructor
        · intro h
          injection h with h
          exact ⟨sz, by omega, by omega, e.mp (by omega)⟩
        · intro h
          rw [e.mpr (isRow_size hsz h)]
      have := q H2 L.sm
      rw [← e2] at this
      exact this
end
end Law
namespace Law
open PySem L2 SA
seal PE PA PT PW PS PSs PG PGs PI PC PIfs PSet OpR UnR CallR IxR SlR PO
section
variable {P : Program} {w : World} {K : PySem.W.Frag} {mg : Str → Option Value} {base : Heap}
theorem sc_filled : FnScope ["row", "number", "cell", "spare", "k", "place", "more", "found"] ["row", "number", "cell"] (defScope s__law_filled) := ⟨rfl, rfl, rfl, by decide +kernel, rfl, by decide +kernel, by decide +kernel⟩
theorem ok_filled (D : Def K mg "_law_filled" s__law_filled ["row", "number", "cell"]) (B : Bn mg) (C1 : Cal P w K mg base 1 "_law_draw" ["cell", "k", "bound"] spDraw) : ∀ n : Nat, Cal P w K mg base (n + 2) "_law_filled" ["row", "number", "cell"] (spFilled n) := by
  intro n
  induction n with
  | zero =>
    refine D.ok sc_filled (fun vs H Q E h => ?_) (fun f cdv A outer s H vs Q E hr h => ?_)
    · obtain ⟨a, row, c, rfl, _⟩ := h
      rfl
    · obtain ⟨a, row, c, rfl, hS, h1, h2, q1, q2⟩ := h
      refine ⟨_, pss_cons (ps_if (pt_cmpR op_eq (pv 1) pe_int (nomark _)) (pss_one (ps_ret (pv 0))) pss_nil) pss_never, ?_⟩
      refine ⟨_, rfl, rfl, _, rfl, ?_⟩
      refine iteT ⟨_, rfl, q2 a row H (Same.refl H) (.inl rfl) hS rfl⟩
  | succ n ih =>
    refine D.ok sc_filled (fun vs H Q E h => ?_) (fun f cdv A outer s H vs Q E hr h => ?_)
    · obtain ⟨a, row, c, rfl, _⟩ := h
      rfl
    · obtain ⟨a, row, c, rfl, hS, h1, h2, q1, q2⟩ := h
      refine ⟨_, pss_cons (ps_if (pt_cmpR op_eq (pv 1) pe_int (nomark _)) (pss_one (ps_ret (pv 0))) pss_nil)
        (pss_cons (ps_set (i := 3) sc_filled.nd rfl (Or.inl rfl) (pe_op op_sub (pe_callB call_len_seq (by rfl) B.len PySem.boot_len (pa_cons (pv 0) pa_nil)) (pv 1)))
        (pss_cons (ps_for PassesOwn.never rfl (pi_range1 rfl B.range (pa_cons (pv 3) pa_nil)) (pg_name (i := 4) sc_filled.nd rfl (Or.inl rfl))
          (pss_cons (ps_set (i := 5) sc_filled.nd rfl (Or.inl rfl) (pe_op op_mod (pe_op op_add (pv 4) (pe_fn C1 (hr.mono (by omega)) (pa_cons (pv 2) (pa_cons (pv 1) (pa_cons (pv 3) pa_nil))))) (pv 3)))
          (pss_one (ps_if (PW.pt (pw_and (pt_cmpR op_eq (pe_ix ix_list (pv 0) (pv 5) (fun _ _ => rfl)) pe_int (nomark _)) (pw_and1 (pt_cmpR op_eq (pe_ix ix_list (pv 0) (pe_op op_add (pv 5) (pv 1)) (fun _ _ => rfl)) pe_int (nomark _)))))
            (pss_cons (ps_set (i := 6) sc_filled.nd rfl (Or.inl rfl) (pe_callTy call_list_of (by rfl) B.list PyProof.Rows.boot_list (pa_cons (pv 0) pa_nil)))
            (pss_cons (ps_asg (pv 1) (pg_sub (pv 6) (pv 5) set_list))
            (pss_cons (ps_asg (pv 1) (pg_sub (pv 6) (pe_op op_add (pv 5) (pv 1)) set_list))
            (pss_cons (ps_set (i := 7) sc_filled.nd rfl (Or.inl rfl) (pe_fn ih hr (pa_cons (pv 6) (pa_cons (pe_op op_sub (pv 1) pe_int) (pa_cons (pv 2) pa_nil)))))
            (pss_one (ps_if (pt_cmpR op_notN (pv 7) pe_non (nomark _)) (pss_one (ps_ret (pv 7))) pss_nil)))))) pss_nil))))
        (pss_one (ps_ret pe_non)))), ?_⟩
      refine ⟨_, rfl, rfl, _, rfl, ?_⟩
      refine ite2 (fun hc => ?_) (fun _ => ?_)
      · have hc : ((n + 1 : Nat) : Int) = 0 := by simpa using hc
        omega
      refine ⟨_, rfl, a, _, rfl, .inl (SqL.of hS), _, rfl, _, _, rfl, rfl, ?_⟩
      rw [List.length_map]
      obtain ⟨sp, esp⟩ : ∃ sp : Nat, sp = row.length - (n + 1) := ⟨_, rfl⟩
      have e1 : (row.length : Int) - ((n + 1 : Nat) : Int) = (sp : Int) := by omega
      rw [show (fun (i j : Int) => V.int (i - j)) (row.length : Int) ((n + 1 : Nat) : Int) = V.int (sp : Int) from congrArg V.int e1]
      have dr := draw_range c ((n + 1 : Nat) : Int) (b := (sp : Int)) (by omega)
      generalize hd : draw c ((n + 1 : Nat) : Int) (sp : Int) = d at dr
      refine ⟨_, rfl, _, rfl, by omega, by omega, ?_⟩
      have e2 : ((sp : Int)).toNat = sp := by omega
      rw [e2]
      refine for_range (lo := 0) (n := sp) (fun i σ H2 => ∃ v4 v5 v6 v7, σ = [some (.ref a), some (.int ((n + 1 : Nat) : Int)), some (.int c), some (.int sp), v4, v5, v6, v7] ∧ Same H H2 ∧
          ∀ j : Nat, j < i → ∀ r, ¬ (row[(((j : Int) + d) % (sp : Int)).toNat]? = some 0 ∧ row[(((j : Int) + d) % (sp : Int)).toNat + (n + 1)]? = some 0 ∧ Compl n (put row (n + 1) (((j : Int) + d) % (sp : Int)).toNat) r))
        ⟨none, none, none, none, rfl, Same.refl H, fun j hj => absurd hj (Nat.not_lt_zero _)⟩ ?_ ?_
      · rintro i σ H2 hi ⟨v4, v5, v6, v7, rfl, s2, hno⟩
        have e0 : (0 : Int) + (i : Int) = (i : Int) := by omega
        rw [e0]
        refine ⟨_, rfl, _, rfl, _, rfl, _, rfl, c, _, _, rfl, by omega, ?_⟩
        rw [hd]
        refine ⟨_, _, rfl, rfl, _, rfl, _, _, rfl, rfl, by omega, ?_⟩
        have hp0 := Int.emod_nonneg ((i : Int) + d) (b := (sp : Int)) (by omega)
        have hp1 := Int.emod_lt_of_pos ((i : Int) + d) (b := (sp : Int)) (by omega)
        have hnext : ∀ j : Nat, j < i + 1 → (j < i) ∨ j = i := fun j hj => by omega
        obtain ⟨p, hpp⟩ : ∃ p : Nat, ((i : Int) + d) % (sp : Int) = (p : Int) := ⟨(((i : Int) + d) % (sp : Int)).toNat, by omega⟩
        rw [hpp] at hp0 hp1
        rw [show (fun (i j : Int) => V.int (i % j)) ((i : Int) + d) (sp : Int) = V.int (p : Int) from congrArg V.int hpp]
        have ep : ((p : Int)).toNat = p := by omega
        have hlp : p < row.length := by omega
        have hlq : p + (n + 1) < row.length := by omega
        have g1 := List.getElem?_eq_getElem hlp
        have g2 := List.getElem?_eq_getElem hlq
        generalize row[p] = x1 at g1
        generalize row[p + (n + 1)] = x2 at g2
        have hS2 := s2 _ _ hS
        have step : ∀ H3 (w4 w5 w6 w7 : Option V), Same H H3 → (∀ r, ¬ (row[p]? = some 0 ∧ row[p + (n + 1)]? = some 0 ∧ Compl n (put row (n + 1) p) r)) →
            ∃ v4 v5 v6 v7, ([some (.ref a), some (.int ((n + 1 : Nat) : Int)), some (.int c), some (.int sp), w4, w5, w6, w7] : St) = [some (.ref a), some (.int ((n + 1 : Nat) : Int)), some (.int c), some (.int sp), v4, v5, v6, v7] ∧ Same H H3 ∧
          ∀ j : Nat, j < i + 1 → ∀ r, ¬ (row[(((j : Int) + d) % (sp : Int)).toNat]? = some 0 ∧ row[(((j : Int) + d) % (sp : Int)).toNat + (n + 1)]? = some 0 ∧ Compl n (put row (n + 1) (((j : Int) + d) % (sp : Int)).toNat) r) := by
          intro H3 w4 w5 w6 w7 s3 hn3
          refine ⟨w4, w5, w6, w7, rfl, s3, fun j hj => ?_⟩
          rcases hnext j hj with h | h
          · exact hno j h
          · subst h
            rw [hpp, ep]
            exact hn3
        refine ⟨_, rfl, _, rfl, a, _, _, _, rfl, rfl, SqL.of hS2, atI_nat (map_at g1), rfl, _, rfl, ?_⟩
        refine ite2 (fun hc => ?_) (fun hc => ?_)
        · have z1 : x1 = 0 := by simpa using hc
          have e3 : (p : Int) + ((n + 1 : Nat) : Int) = ((p + (n + 1) : Nat) : Int) := by omega
          refine ⟨_, rfl, _, rfl, _, rfl, _, _, rfl, rfl, a, _, _, _, rfl, rfl, SqL.of hS2, by rw [e3]; exact atI_nat (map_at g2), rfl, _, rfl, ?_⟩
          refine ite2 (fun hc => ?_) (fun hc => ?_)
          · have z2 : x2 = 0 := by simpa using hc
            refine ⟨_, rfl, a, _, rfl, .inl (SqL.of hS2), fun l hn => ?_⟩
            refine ⟨_, rfl, _, rfl, _, rfl, l, _, _, p, rfl, rfl, upd_same, ixN_nat (by rw [List.length_map]; omega), ?_⟩
            refine ⟨_, rfl, _, rfl, _, rfl, _, rfl, _, _, rfl, rfl, l, _, _, p + (n + 1), rfl, rfl, upd_same, by rw [e3]; exact ixN_nat (by rw [List.length_set, List.length_map]; omega), ?_⟩
            have hl0 : H l = none := s2.free hn
            have s3 : Same H2 (upd (upd (upd H2 l (.lst (row.map V.int))) l (.lst ((row.map V.int).set p (V.int ((n + 1 : Nat) : Int))))) l (.lst (((row.map V.int).set p (V.int ((n + 1 : Nat) : Int))).set (p + (n + 1)) (V.int ((n + 1 : Nat) : Int))))) := fun b o e => by
              rw [upd_ne (ne_of_none e hn), upd_ne (ne_of_none e hn), upd_ne (ne_of_none e hn)]; exact e
            refine ⟨_, rfl, _, rfl, _, _, rfl, rfl, _, rfl, l, put row (n + 1) p, c, ?_, ?_, by rw [put_length]; omega, by rw [put_length]; omega, fun H4 s4 hnc => ?_, fun l4 r H4 s4 hl4 hH4 hcm => ?_⟩
            · have e5 : ((n + 1 : Nat) : Int) - 1 = (n : Int) := by omega
              show [V.ref l, V.int (((n + 1 : Nat) : Int) - 1), V.int c] ++ [] = [V.ref l, V.int (n : Int), V.int c]
              rw [e5]
              rfl
            · rw [upd_same, map_put]
            · refine ⟨_, rfl, rfl, _, rfl, ?_⟩
              refine iteF ?_
              exact step _ _ _ _ _ ((s2.trans s3).trans s4) fun r hr => hnc ⟨r, hr.2.2⟩
            · refine ⟨_, rfl, rfl, _, rfl, ?_⟩
              refine iteT ⟨_, rfl, ?_⟩
              refine q2 l4 r H4 ((s2.trans s3).trans s4) (.inr ?_) hH4 ⟨p, by rw [g1, z1], by rw [g2, z2], hcm⟩
              rcases hl4 with h | h
              · rw [h]; exact hl0
              · exact (s2.trans s3).free h
          · have z2 : ¬ x2 = 0 := by simpa using hc
            refine step _ _ _ _ _ s2 fun r hr => z2 ?_
            rw [g2] at hr
            simpa using hr.2.1
        · have z1 : ¬ x1 = 0 := by simpa using hc
          refine step _ _ _ _ _ s2 fun r hr => z1 ?_
          rw [g1] at hr
          simpa using hr.1
      · rintro σ H2 ⟨v4, v5, v6, v7, rfl, s2, hno⟩
        refine q1 H2 s2 ?_
        rintro ⟨r, p, h0, hq, hcm⟩
        have hlq : p + (n + 1) < row.length := (List.getElem?_eq_some_iff.mp hq).1
        obtain ⟨j, j0, j1, ej⟩ := round (sp : Int) d dr.1 dr.2 (p : Int) (by omega) (by omega)
        have := hno j.toNat (by omega) r
        have ej2 : ((j.toNat : Nat) : Int) = j := by omega
        rw [ej2, ej] at this
        have ep : ((p : Int)).toNat = p := by omega
        rw [ep] at this
        exact this ⟨h0, hq, hcm⟩
end
end Law
namespace Law
open PySem L2 SA
seal PE PA PT PW PS PSs PG PGs PI PC PIfs PSet OpR UnR CallR IxR SlR PO
section
variable {P : Program} {w : World} {K : PySem.W.Frag} {mg : Str → Option Value} {base : Heap}
theorem sc_small : FnScope ["script", "first", "size"] ["script", "first"] (defScope s__law_small_row) := ⟨rfl, rfl, rfl, by decide +kernel, rfl, by decide +kernel, by decide +kernel⟩
theorem ok_small (D : Def K mg "_law_small_row" s__law_small_row ["script", "first"]) (B : Bn mg) (C1 : Cal P w K mg base 1 "_law_cell_at" ["script", "k"] (spCell K)) (C2 : ∀ n : Nat, Cal P w K mg base (n + 2) "_law_filled" ["row", "number", "cell"] (spFilled n)) :
    Cal P w K mg base 12 "_law_small_row" ["script", "first"] (spSmall K) := by
  refine D.ok sc_small (fun vs H Q E h => ?_) (fun f cdv A outer s H vs Q E hr h => ?_)
  · obtain ⟨a, ns, k, rfl, _⟩ := h
    rfl
  · obtain ⟨a, ns, k, rfl, hS, q⟩ := h
    obtain ⟨sz, hm, hz⟩ := mod7 (ns.getD k 0)
    have hle : sz ≤ 9 := by
      simp only [List.mem_cons, List.not_mem_nil, or_false] at hm
      omega
    refine ⟨_, pss_cons (ps_set (i := 2) sc_small.nd rfl (Or.inl rfl) (pe_ix ix_list (pe_lst (pa_cons pe_int (pa_cons pe_int (pa_cons pe_int (pa_cons pe_int (pa_cons pe_int (pa_cons pe_int (pa_cons pe_int pa_nil))))))))
        (pe_op op_mod (pe_fn C1 (hr.mono (by decide)) (pa_cons (pv 0) (pa_cons (pv 1) pa_nil))) pe_int) (fun _ _ => rfl)))
      (pss_one (ps_ret (pe_fn (C2 sz) (hr.mono (by omega)) (pa_cons
        (pe_comp (T := ["k"]) (F := []) rfl ⟨rfl, by decide +kernel, by decide +kernel, rfl, trivial⟩ (pi_range1 rfl B.range (pa_cons (pe_op op_mul pe_int (pv 2)) pa_nil))
          (fun C s' H' fp => ⟨pg_name (i := 0) (show List.Nodup [("k" : Str)] from by decide +kernel) rfl (Or.inl rfl), pifs_nil, pe_int⟩))
        (pa_cons (pv 2) (pa_cons (pe_fn C1 (hr.mono (by decide)) (pa_cons (pv 0) (pa_cons (pe_op op_add (pv 1) pe_int) pa_nil))) pa_nil)))))), ?_⟩
    refine ⟨by show 7 ≤ sizeLine; rw [sizeLine_eq]; decide, fun p hp => ?_⟩
    have s1 : Same H (upd H p (.lst [V.int 1, V.int 4, V.int 5, V.int 8, V.int 9, V.int 4, V.int 5])) := fun b o e => by rw [upd_ne (ne_of_none e hp)]; exact e
    refine ⟨_, rfl, _, rfl, a, ns, k, rfl, s1.seq hS, _, _, rfl, rfl, (by show (0 : Int) < 7; decide), p, _, _, _, rfl, rfl, SqL.of upd_same, hz, ?_⟩
    refine ⟨_, rfl, _, _, rfl, rfl, .inl ⟨by decide, by decide⟩, 2 * (sz : Int), rfl, by omega, by omega, fun l hl => ?_⟩
    have e2 : (2 * (sz : Int)).toNat = 2 * sz := by omega
    rw [e2]
    have hl0 : H l = none := s1.free hl
    refine comp_range (lo := 0) (n := 2 * sz) (fun i σ ys H3 => ∃ v, σ = [v] ∧ Same H H3 ∧ H3 l = some (.lst ys) ∧ ys = List.replicate i (V.int 0)) ⟨none, rfl, fun b o e => ?_, upd_same, rfl⟩ ?_ ?_
    · rw [upd_ne (ne_of_none e hl0)]; exact s1 b o e
    · rintro i σ ys H3 hi ⟨v, rfl, s3, hl3, rfl⟩
      refine comp_yes ?_
      refine ⟨hl3, by rw [List.length_replicate]; exact small1000 (by omega), _, rfl, fun b o e => ?_, upd_same, ?_⟩
      · rw [upd_ne (ne_of_none e hl0)]; exact s3 b o e
      · rw [List.replicate_succ']
    · rintro σ ys H3 ⟨v, rfl, s3, hl3, rfl⟩
      refine ⟨_, rfl, _, rfl, _, rfl, _, _, rfl, rfl, a, ns, k + 1, ?_, s3.seq hS, ?_⟩
      · have e : (k : Int) + 1 = ((k + 1 : Nat) : Int) := by omega
        show [V.ref a, V.int ((k : Int) + 1)] ++ [] = [V.ref a, V.int ((k + 1 : Nat) : Int)]
        rw [e]; rfl
      refine ⟨l, List.replicate (2 * sz) 0, _, rfl, by rw [map_zero]; exact hl3, by rw [List.length_replicate]; exact Nat.le_refl _, by rw [List.length_replicate]; omega, fun H4 s4 hno => ?_, fun l4 r H4 s4 hl4 hH4 hcm => ?_⟩
      · exact absurd (compl_small sz hm) hno
      · refine q l4 sz r H4 hm hcm.rowOf (s3.trans s4) ?_ hH4
        rcases hl4 with h | h
        · rw [h]; exact hl0
        · exact s3.free h
end
end Law
namespace Law
open PySem L2 SA
seal PE PA PT PW PS PSs PG PGs PI PC PIfs PSet OpR UnR CallR IxR SlR PO PJ
section
variable {P : Program} {w : World} {K : PySem.W.Frag} {mg : Str → Option Value} {base : Heap} {c0 c1 c2 c3 c4 : Addr}
theorem sc_word : FnScope ["e", "kinds"] ["e"] (defScope s__law_word_of) := ⟨rfl, rfl, rfl, by decide +kernel, rfl, by decide +kernel, by decide +kernel⟩
theorem ok_word (D : Def K mg "_law_word_of" s__law_word_of ["e"]) (B : Bn mg) (F5 : Five K mg c0 c1 c2 c3 c4) : CalM P w K mg base 1 "_law_word_of" ["e"] (spWord K c0 c1 c2 c3 c4) := by
  refine D.okM sc_word (fun vs H Q E h => ?_) (fun f cdv A outer s H vs Q E hr h => ?_)
  · obtain ⟨a, C, j, rfl, _⟩ := h
    rfl
  · obtain ⟨a, C, j, rfl, ha, hj, kd, q⟩ := h
    refine ⟨_, pss_cons (ps_set (i := 1) sc_word.nd rfl (Or.inl rfl) (pe_lst (pa_cons (pe_callB call_isX (by rfl) B.isinstance PyProof.Rows.boot_isinstance (pa_cons (pv 0) (pa_cons (pe_glob (v := .ref c0) (by rfl) F5.n0 rfl) pa_nil)))
        (pa_cons (pe_callB call_isX (by rfl) B.isinstance PyProof.Rows.boot_isinstance (pa_cons (pv 0) (pa_cons (pe_glob (v := .ref c1) (by rfl) F5.n1 rfl) pa_nil)))
        (pa_cons (pe_callB call_isX (by rfl) B.isinstance PyProof.Rows.boot_isinstance (pa_cons (pv 0) (pa_cons (pe_glob (v := .ref c2) (by rfl) F5.n2 rfl) pa_nil))) pa_nil)))))
      (pss_cons (ps_set (i := 1) sc_word.nd rfl (Or.inl rfl) (pe_op op_cat (pv 1) (pe_lst (pa_cons (pe_callB call_isX (by rfl) B.isinstance PyProof.Rows.boot_isinstance (pa_cons (pv 0) (pa_cons (pe_glob (v := .ref c3) (by rfl) F5.n3 rfl) pa_nil)))
        (pa_cons (pe_callB call_isX (by rfl) B.isinstance PyProof.Rows.boot_isinstance (pa_cons (pv 0) (pa_cons (pe_glob (v := .ref c4) (by rfl) F5.n4 rfl) pa_nil))) pa_nil)))))
      (pss_cons (ps_if (PW.pt (pw_or (pt_cmpR op_ne (pe_bm PySem.F.plainAttrs_list PySem.F.slot_list_count PySem.F.type_list_count mt_count (pv 1) (pa_cons pe_bl pa_nil)) pe_int (nomark _))
        (pw_or1 (pt_not (pt_val (pe_callB call_isX (by rfl) B.isinstance PyProof.Rows.boot_isinstance (pa_cons (pv 0) (pa_cons (pe_bltn (v := .ty "ValueError") (by rfl) F5.nv PyProof.Rows.Boot.ValueError rfl) pa_nil)))))))) (pss_one (ps_ret pe_str)) pss_nil)
      (pss_one (ps_ret (pe_ix ix_list (pe_lst (pa_cons pe_str (pa_cons pe_str (pa_cons pe_str (pa_cons pe_str (pa_cons pe_str pa_nil))))))
        (pe_bm PySem.F.plainAttrs_list PySem.F.slot_list_index PySem.F.type_list_index mt_index (pv 1) (pa_cons pe_bl pa_nil)) (fun _ _ => rfl)))))), ?_⟩
    have five : 5 ≤ sizeLine := by rw [sizeLine_eq]; decide
    refine ⟨_, rfl, a, C, _, _, _, rfl, ha, kd.xc, .inl ⟨_, rfl, rfl⟩, kd.k0, _, rfl, a, C, _, _, _, rfl, ha, kd.xc, .inl ⟨_, rfl, rfl⟩, kd.k1, _, rfl, a, C, _, _, _, rfl, ha, kd.xc, .inl ⟨_, rfl, rfl⟩, kd.k2, by show 3 ≤ sizeLine; omega, fun l1 hl1 => ?_⟩
    have s1 := same_upd (o := .lst [V.bl (decide (j = 0)), V.bl (decide (j = 1)), V.bl (decide (j = 2))]) (Same.refl _) hl1
    have ha1 := s1 _ _ ha
    refine ⟨_, rfl, _, rfl, a, C, _, _, _, rfl, ha1, kd.xc, .inl ⟨_, rfl, rfl⟩, kd.k3, _, rfl, a, C, _, _, _, rfl, ha1, kd.xc, .inl ⟨_, rfl, rfl⟩, kd.k4, by show 2 ≤ sizeLine; omega, fun l2 hl2 => ?_⟩
    have s2 := same_upd (o := .lst [V.bl (decide (j = 3)), V.bl (decide (j = 4))]) (Same.refl _) hl2
    refine ⟨l1, l2, _, _, rfl, rfl, s2 _ _ upd_same, upd_same, by show 5 ≤ sizeLine; exact five, fun l3 hl3 => ?_⟩
    have s3 := same_upd (o := .lst ([V.bl (decide (j = 0)), V.bl (decide (j = 1)), V.bl (decide (j = 2))] ++ [V.bl (decide (j = 3)), V.bl (decide (j = 4))])) (Same.refl _) hl3
    have ha3 := s3 _ _ (s2 _ _ ha1)
    have hk3 := upd_same (H := upd (upd H l1 (.lst [V.bl (decide (j = 0)), V.bl (decide (j = 1)), V.bl (decide (j = 2))])) l2 (.lst [V.bl (decide (j = 3)), V.bl (decide (j = 4))])) (a := l3) (o := .lst ([V.bl (decide (j = 0)), V.bl (decide (j = 1)), V.bl (decide (j = 2))] ++ [V.bl (decide (j = 3)), V.bl (decide (j = 4))]))
    have s03 : Same H _ := s1.trans (s2.trans s3)
    generalize upd (upd (upd H l1 (.lst [V.bl (decide (j = 0)), V.bl (decide (j = 1)), V.bl (decide (j = 2))])) l2 (.lst [V.bl (decide (j = 3)), V.bl (decide (j = 4))])) l3 (.lst ([V.bl (decide (j = 0)), V.bl (decide (j = 1)), V.bl (decide (j = 2))] ++ [V.bl (decide (j = 3)), V.bl (decide (j = 4))])) = H3 at *
    refine ⟨_, rfl, .inl ⟨rfl, _, SqL.of hk3⟩, l3, _, _, rfl, rfl, SqL.of hk3, rfl, rfl, rfl, _, rfl, ?_⟩
    have hcnt : List.countP (fun z => eqV z (V.bl true)) ([V.bl (decide (j = 0)), V.bl (decide (j = 1)), V.bl (decide (j = 2))] ++ [V.bl (decide (j = 3)), V.bl (decide (j = 4))]) = 1 := by
      have : j = 0 ∨ j = 1 ∨ j = 2 ∨ j = 3 ∨ j = 4 := by omega
      rcases this with rfl | rfl | rfl | rfl | rfl <;> rfl
    rw [hcnt]
    refine iteF ⟨_, rfl, a, C, _, _, _, rfl, ha3, kd.xc, .inr ⟨_, rfl, rfl⟩, kd.kv, _, rfl, ?_⟩
    refine iteF ⟨five, fun l4 hl4 => ?_⟩
    have s4 := same_upd (o := .lst [V.str "size", V.str "such", V.str "row", V.str "person", V.str "note"]) (Same.refl _) hl4
    have hk4 := s4 _ _ hk3
    refine ⟨_, rfl, .inl ⟨rfl, _, SqL.of hk4⟩, l3, _, _, j, .bl true, rfl, rfl, SqL.of hk4, rfl, rfl, ?_, rfl, ?_, l4, _, _, _, rfl, rfl, SqL.of upd_same, atI_nat (v := V.str (words.getD j "")) ?_, q _ (s03.trans s4)⟩
    · have : j = 0 ∨ j = 1 ∨ j = 2 ∨ j = 3 ∨ j = 4 := by omega
      rcases this with rfl | rfl | rfl | rfl | rfl <;> rfl
    · intro m hm z hz
      have : j = 0 ∨ j = 1 ∨ j = 2 ∨ j = 3 ∨ j = 4 := by omega
      have h5 : m = 0 ∨ m = 1 ∨ m = 2 ∨ m = 3 := by omega
      rcases this with rfl | rfl | rfl | rfl | rfl <;> rcases h5 with rfl | rfl | rfl | rfl <;> first | omega | (injection hz with hz; subst hz; rfl)
    · have : j = 0 ∨ j = 1 ∨ j = 2 ∨ j = 3 ∨ j = 4 := by omega
      rcases this with rfl | rfl | rfl | rfl | rfl <;> rfl
end
end Law
namespace Law
open PySem L2 SA TX
seal PE PA PT PW PS PSs PG PGs PI PC PIfs PSet OpR UnR CallR IxR SlR PO
section
variable {P : Program} {w : World} {K : PySem.W.Frag} {mg : Str → Option Value} {base : Heap}
theorem sc_wn : FnScope ["part"] ["part"] (defScope s_writes_number) := ⟨rfl, rfl, rfl, by decide +kernel, rfl, by decide +kernel, by decide +kernel⟩
theorem ok_wn {tk tf : Tok} {fs : Str} (D : Def K mg "writes_number" s_writes_number ["part"]) (B : Bn mg) (hStr : mg "str" = none) (hG : mg "GREATEST" = some (.int 400 tk)) (hF : mg "FIGURES" = some (.str fs tf)) (hfs : fs.cps.toList = [48, 49, 50, 51, 52, 53, 54, 55, 56, 57]) :
    Cal P w K mg base 1 "writes_number" ["part"] spWn := by
  refine D.ok sc_wn (fun vs H Q E h => ?_) (fun f cdv A outer s H vs Q E hr h => ?_)
  · obtain ⟨p, rfl, _⟩ := h
    rfl
  · obtain ⟨p, rfl, hl, hsm, q⟩ := h
    have nd1 : List.Nodup [("sign" : Str)] := by decide +kernel
    refine ⟨_, pss_cons (ps_if (PW.pt (pw_or (pt_cmpR op_eq (pv 0) pe_str (nomark _)) (pw_or (pt_val (pe_bm PySem.F.plainAttrs_str PySem.F.slot_str_startswith PySem.F.type_str_startswith mt_starts (pv 0) (pa_cons pe_str pa_nil)))
        (pw_or1 (pt_cmpR op_gt (pe_callB call_len_str (by rfl) B.len PySem.boot_len (pa_cons (pv 0) pa_nil)) (pe_callB call_len_str (by rfl) B.len PySem.boot_len (pa_cons (pe_callTy call_str_int (by rfl) hStr PyProof.Rows.boot_str (pa_cons (pe_glob (v := .int 400) (by rfl) hG ⟨_, rfl⟩) pa_nil)) pa_nil)) (nomark _)))))) (pss_one (ps_ret pe_bl)) pss_nil)
      (pss_one (ps_ret (pe_callB (call_all rfl) (by rfl) B.all PyProof.Rows.boot_all (pa_cons (pe_comp (T := ["sign"]) (F := []) rfl ⟨rfl, by decide +kernel, by decide +kernel, rfl, trivial⟩ (pi_str (pv 0))
        (fun C s' H' fp => ⟨pg_name (i := 0) nd1 rfl (Or.inl rfl), pifs_nil, pe_cmpR op_in_str (pv 0) (pe_glob (v := .str fs) (by rfl) hF ⟨_, rfl⟩) (by rfl)⟩)) pa_nil)))), ?_⟩
    have hlen := len_toList p
    have no : wn p = false → Q (.bl false) H := fun e => by rw [← e]; exact q H (Same.refl H)
    have e400 : (Str.ofString (toString (400 : Int))).length = 3 := by decide +kernel
    refine ⟨_, rfl, rfl, _, rfl, ?_⟩
    refine ite2 (fun hc => ?_) (fun hc => ?_)
    · refine iteT (no ?_)
      have e : p = Str.ofString "" := by
        have := of_decide_eq_true hc
        injection this
      rw [e]; rfl
    have hne : p.cps.toList ≠ [] := fun z => hc (decide_eq_true (by
      have : p = Str.ofString "" := by
        apply Str.ext'
        apply Array.toList_inj.mp
        rw [z]; rfl
      rw [this]))
    refine ⟨_, rfl, rfl, _, _, rfl, rfl, _, rfl, ?_⟩
    have es : Txt.startswith p (Str.ofString "0") = decide (p.cps.toList.head? = some 48) := by
      unfold Txt.startswith
      have k := PySem.StrLaws.subAt_one p 48 0
      have e1 : (Str.ofString "0") = ⟨#[48]⟩ := rfl
      rw [e1]
      have e2 : (⟨#[48]⟩ : Str).length = 1 := rfl
      rw [e2] at k ⊢
      rw [List.head?_eq_getElem?]
      by_cases g : p.cps.toList[0]? = some 48
      · rw [decide_eq_true g]
        have := k.mpr g
        rw [this.2, decide_eq_true this.1]; rfl
      · rw [decide_eq_false g]
        cases a : decide (0 + 1 ≤ p.length) with
        | false => rfl
        | true =>
          cases b : Builtin.Str.subAt p ⟨#[48]⟩ 0 with
          | false => rfl
          | true => exact absurd (k.mp ⟨of_decide_eq_true a, b⟩) g
    show if Txt.startswith p (Str.ofString "0") = true then _ else _
    rw [es]
    refine ite2 (fun hc2 => ?_) (fun hc2 => ?_)
    · refine iteT (no ?_)
      have := of_decide_eq_true hc2
      unfold wn wnL
      rw [decide_eq_false (show ¬ p.cps.toList.head? ≠ some 48 from fun z => z this)]; simp
    have hh : p.cps.toList.head? ≠ some 48 := fun z => hc2 (decide_eq_true z)
    refine ⟨_, rfl, p, rfl, by rw [sizeLine_eq]; omega, _, rfl, by decide +kernel, _, rfl, by rw [e400]; rw [sizeLine_eq]; decide, _, _, rfl, rfl, _, rfl, ?_⟩
    rw [e400]
    refine ite2 (fun hc3 => ?_) (fun hc3 => ?_)
    · have : ((3 : Nat) : Int) < (p.length : Int) := of_decide_eq_true hc3
      refine no ?_
      unfold wn wnL
      rw [decide_eq_false (show ¬ p.cps.toList.length ≤ 3 by omega)]; simp
    have h3 : p.length ≤ 3 := by
      have : ¬ ((3 : Nat) : Int) < (p.length : Int) := fun z => hc3 (decide_eq_true z)
      omega
    refine ⟨_, rfl, p, rfl, hsm, fun lc hlc => ?_⟩
    refine comp_str (fun k σ ys H9 => ∃ v, σ = [v] ∧ Same H H9 ∧ H9 lc = some (.lst ys) ∧ ys = ((p.cps.toList.take k).map digB).map V.bl) ⟨none, rfl, same_upd (Same.refl _) hlc, upd_same, rfl⟩ ?_ ?_
    · rintro k c σ ys H9 hk ⟨v, rfl, s9, hl9, eys⟩
      refine comp_yes ?_
      refine ⟨_, rfl, _, _, rfl, rfl, hl9, ?_, _, rfl, same_upd s9 hlc, upd_same, ?_⟩
      · rw [eys, List.length_map, List.length_map]; exact small1000 (by rw [List.length_take]; omega)
      · have hk' : p.cps.toList[k]? = some c := by rw [Array.getElem?_toList]; exact hk
        have eb : (!(Builtin.Str.occurrences fs ⟨#[c]⟩ 0 fs.length 1).isEmpty) = digB c := by
          rw [PySem.StrLaws.found_one, hfs]
          unfold digB
          apply decide_eq_decide.mpr
          simp only [List.mem_cons, List.not_mem_nil, or_false]
          omega
        rw [eb, List.take_add_one, hk', List.map_append, List.map_append, eys]; rfl
    · rintro σ ys H9 ⟨v, rfl, s9, hl9, eys⟩
      refine ⟨lc, _, rfl, SqL.of (by rw [hl9, eys]), ?_⟩
      have ea : ((p.cps.toList.take p.length).map digB).all id = wn p := by
        rw [List.take_of_length_le (by omega), List.all_map]
        unfold wn wnL
        rw [decide_eq_true hne, decide_eq_true hh, decide_eq_true (show p.cps.toList.length ≤ 3 by omega)]
        rfl
      rw [ea]
      exact q H9 s9
theorem sc_nums : FnScope ["text", "parts"] ["text"] (defScope s_numbers_of) := ⟨rfl, rfl, rfl, by decide +kernel, rfl, by decide +kernel, by decide +kernel⟩
theorem ok_nums (D : Def K mg "numbers_of" s_numbers_of ["text"]) (B : Bn mg) (C1 : Cal P w K mg base 1 "writes_number" ["part"] spWn) : Cal P w K mg base 2 "numbers_of" ["text"] spNums := by
  refine D.ok sc_nums (fun vs H Q E h => ?_) (fun f cdv A outer s H vs Q E hr h => ?_)
  · obtain ⟨z, rfl, _⟩ := h
    rfl
  · obtain ⟨z, rfl, hz, hsm, hall, q⟩ := h
    have nd1 : List.Nodup [("part" : Str)] := by decide +kernel
    refine ⟨_, pss_cons (ps_set (i := 1) sc_nums.nd rfl (Or.inl rfl) (pe_bm PySem.F.plainAttrs_str PySem.F.slot_str_split PySem.F.type_str_split mt_split (pv 0) (pa_cons pe_str pa_nil)))
      (pss_cons (ps_if (pt_not (pt_val (pe_callB (call_all rfl) (by rfl) B.all PyProof.Rows.boot_all (pa_cons (pe_comp (T := ["part"]) (F := []) rfl ⟨rfl, by decide +kernel, by decide +kernel, rfl, trivial⟩ (pi_list (pv 1))
        (fun C s' H' fp => ⟨pg_name (i := 0) nd1 rfl (Or.inl rfl), pifs_nil, pe_fn C1 hr (pa_cons (pv 0) pa_nil)⟩)) pa_nil)))) pss_never pss_nil)
      (pss_one (ps_ret (pe_comp (T := ["part"]) (F := []) rfl ⟨rfl, by decide +kernel, by decide +kernel, rfl, trivial⟩ (pi_list (pv 1))
        (fun C s' H' fp => ⟨pg_name (i := 0) nd1 rfl (Or.inl rfl), pifs_nil, pe_callTy call_intT (by rfl) B.int PyProof.Rows.boot_int (pa_cons (pv 0) pa_nil)⟩))))), ?_⟩
    have hsp := split_small hsm
    have hcount : (Txt.split z ⟨#[32]⟩).length ≤ 100002 := by have := PyProof.Rows.split_le z ⟨#[32]⟩; omega
    refine ⟨_, rfl, rfl, z, rfl, rfl, hz, fun lp hlp => ?_⟩
    have s1 : Same H (upd H lp (.lst ((Txt.split z ⟨#[32]⟩).map V.str))) := same_upd (Same.refl _) hlp
    have hp1 := upd_same (H := H) (a := lp) (o := .lst ((Txt.split z ⟨#[32]⟩).map V.str))
    generalize upd H lp (.lst ((Txt.split z ⟨#[32]⟩).map V.str)) = H1 at *
    generalize hps : Txt.split z ⟨#[32]⟩ = ps at *
    refine ⟨_, rfl, lp, rfl, ⟨_, SqL.of hp1⟩, fun lc hlc => ?_⟩
    refine comp_list (K := K) (a := lp) (xs := ps.map V.str) (fun k σ ys H9 => ∃ v, σ = [v] ∧ Same H1 H9 ∧ H9 lc = some (.lst ys) ∧ ys = ((ps.take k).map wn).map V.bl) ⟨none, rfl, same_upd (Same.refl _) hlc, upd_same, rfl⟩ (fun k σ ys H9 _ ⟨_, _, s9, _⟩ => SqL.of (s9 _ _ hp1)) ?_ ?_
    · rintro k x σ ys H9 hk ⟨v, rfl, s9, hl9, eys⟩
      obtain ⟨p, hp, rfl⟩ : ∃ p, ps[k]? = some p ∧ x = V.str p := by
        rw [List.getElem?_map] at hk
        cases e : ps[k]? with
        | none => rw [e] at hk; cases hk
        | some p => rw [e] at hk; exact ⟨p, rfl, (Option.some.inj hk).symm⟩
      have hpm := hsp p (List.mem_of_getElem? hp)
      refine comp_yes ?_
      refine ⟨_, rfl, p, rfl, by omega, hpm.1, fun H10 s10 => ⟨s10 _ _ hl9, ?_, _, rfl, same_upd (s9.trans s10) hlc, upd_same, ?_⟩⟩
      · rw [eys, List.length_map, List.length_map, List.length_take]; exact smallX (by omega)
      · rw [List.take_add_one, hp, List.map_append, List.map_append, eys]; rfl
    · rintro σ ys H9 ⟨v, rfl, s9, hl9, eys⟩
      rw [List.length_map, List.take_length] at eys
      refine ⟨lc, _, rfl, SqL.of (by rw [hl9, eys]), _, rfl, ?_⟩
      have ea : (ps.map wn).all id = true := by rw [List.all_map]; exact hall
      rw [ea]
      refine iteF ?_
      have hp9 := s9 _ _ hp1
      refine ⟨_, rfl, lp, rfl, ⟨_, SqL.of hp9⟩, fun ld hld => ?_⟩
      refine comp_list (K := K) (a := lp) (xs := ps.map V.str) (fun k σ ys H10 => ∃ v, σ = [v] ∧ Same H9 H10 ∧ H10 ld = some (.lst ys) ∧ ys = ((ps.take k).map val).map V.int) ⟨none, rfl, same_upd (Same.refl _) hld, upd_same, rfl⟩ (fun k σ ys H10 _ ⟨_, _, s10, _⟩ => SqL.of (s10 _ _ hp9)) ?_ ?_
      · rintro k x σ ys2 H10 hk ⟨v, rfl, s10, hl10, eys2⟩
        obtain ⟨p, hp, rfl⟩ : ∃ p, ps[k]? = some p ∧ x = V.str p := by
          rw [List.getElem?_map] at hk
          cases e : ps[k]? with
          | none => rw [e] at hk; cases hk
          | some p => rw [e] at hk; exact ⟨p, rfl, (Option.some.inj hk).symm⟩
        have hw := wn_reads (List.all_eq_true.mp hall p (List.mem_of_getElem? hp))
        refine comp_yes ?_
        refine ⟨_, rfl, p, _, rfl, hw.1, hw.2, hl10, ?_, _, rfl, same_upd s10 hld, upd_same, ?_⟩
        · rw [eys2, List.length_map, List.length_map, List.length_take]; exact smallX (by omega)
        · rw [List.take_add_one, hp, List.map_append, List.map_append, eys2]; rfl
      · rintro σ ys2 H10 ⟨v, rfl, s10, hl10, eys2⟩
        rw [List.length_map, List.take_length] at eys2
        have s19 := s1.trans s9
        exact q ld H10 (s19.free hld) (by rw [hl10, eys2]) (s19.trans s10)
theorem sc_read : FnScope ["text", "row"] ["text"] (defScope s_read) := ⟨rfl, rfl, rfl, by decide +kernel, rfl, by decide +kernel, by decide +kernel⟩
def spReadIs : Sp := fun vs H Q _ => ∃ (z : Str), vs = [.str z] ∧ z.length ≤ 100000 ∧ z.cps.all (· < 128) = true ∧ (Txt.split z ⟨#[32]⟩).all wn = true ∧ (Txt.split z ⟨#[32]⟩).length ≤ 1000 ∧ IsRow ((Txt.split z ⟨#[32]⟩).map val) ∧
  ∀ (l : Addr) (H' : Hp), H l = none → H' l = some (.lst (((Txt.split z ⟨#[32]⟩).map val).map V.int)) → Same H H' → Q (.ref l) H'
theorem ok_readIs (D : Def K mg "read" s_read ["text"]) (C1 : Cal P w K mg base 2 "numbers_of" ["text"] spNums) (C2 : Cal P w K mg base 2 "is_row" ["row"] spIsRow) : Cal P w K mg base 3 "read" ["text"] spReadIs := by
  refine D.ok sc_read (fun vs H Q E h => ?_) (fun f cdv A outer s H vs Q E hr h => ?_)
  · obtain ⟨z, rfl, _⟩ := h
    rfl
  · obtain ⟨z, rfl, hz, hsm, hall, hlen, hrow, q⟩ := h
    refine ⟨_, pss_cons (ps_set (i := 1) sc_read.nd rfl (Or.inl rfl) (pe_fn C1 hr (pa_cons (pv 0) pa_nil)))
      (pss_cons (ps_if (pt_not (pt_val (pe_fn C2 hr (pa_cons (pv 1) pa_nil)))) pss_never pss_nil) (pss_one (ps_ret (pv 1)))), ?_⟩
    refine ⟨_, rfl, z, rfl, hz, hsm, hall, fun l H1 hl0 hl s1 => ?_⟩
    refine ⟨_, rfl, l, _, rfl, hl, by rw [List.length_map]; exact hlen, fun H2 s2 => ⟨_, rfl, ?_⟩⟩
    rw [(isRowC_iff _).mpr hrow]
    exact iteF ⟨_, rfl, q l H2 hl0 (s2 _ _ hl) (s1.trans s2)⟩
end
end Law
namespace Law
open PySem L2 SA TX
seal PE PA PT PW PS PSs PG PGs PI PC PIfs PSet OpR UnR CallR IxR SlR PO PJ
section
variable {P : Program} {w : World} {K : PySem.W.Frag} {mg : Str → Option Value} {base : Heap} {c0 c1 c2 c3 c4 : Addr}
theorem ok_numsE (D : Def K mg "numbers_of" s_numbers_of ["text"]) (B : Bn mg) (X4 : Err K mg "NoNote" c4) (C1 : Cal P w K mg base 1 "writes_number" ["part"] spWn) : CalE P w K mg base 2 "numbers_of" ["text"] (spNumsE c4) := by
  refine D.okE sc_nums (fun vs H Q E h => ?_) (fun f cdv A outer s H vs Q E hr h => ?_)
  · obtain ⟨z, rfl, _⟩ := h
    rfl
  · obtain ⟨z, rfl, hz, hall, q⟩ := h
    have nd1 : List.Nodup [("part" : Str)] := by decide +kernel
    refine ⟨_, pss_cons (ps_set (i := 1) sc_nums.nd rfl (Or.inl rfl) (pe_bm PySem.F.plainAttrs_str PySem.F.slot_str_split PySem.F.type_str_split mt_split (pv 0) (pa_cons pe_str pa_nil)))
      (pss_cons (ps_if (pt_not (pt_val (pe_callB (call_all rfl) (by rfl) B.all PyProof.Rows.boot_all (pa_cons (pe_comp (T := ["part"]) (F := []) rfl ⟨rfl, by decide +kernel, by decide +kernel, rfl, trivial⟩ (pi_list (pv 1))
        (fun C s' H' fp => ⟨pg_name (i := 0) nd1 rfl (Or.inl rfl), pifs_nil, pe_fn C1 hr (pa_cons (pv 0) pa_nil)⟩)) pa_nil)))) (pss_one (ps_raise throws_def X4.ex X4.nm (by rfl) rfl pe_str)) pss_nil) pss_never), ?_⟩
    have hsp := split_small hz.2
    have hcount := hz.count
    have hall : (Txt.split z ⟨#[32]⟩).all wn = false := hall
    have hcount : (Txt.split z ⟨#[32]⟩).length ≤ 502 := hcount
    have hz1 := hz.1
    refine ⟨_, rfl, rfl, z, rfl, rfl, by omega, fun lp hlp => ?_⟩
    have s1 : Same H (upd H lp (.lst ((Txt.split z ⟨#[32]⟩).map V.str))) := same_upd (Same.refl _) hlp
    have hp1 := upd_same (H := H) (a := lp) (o := .lst ((Txt.split z ⟨#[32]⟩).map V.str))
    generalize upd H lp (.lst ((Txt.split z ⟨#[32]⟩).map V.str)) = H1 at *
    generalize hps : Txt.split z ⟨#[32]⟩ = ps at *
    refine ⟨_, rfl, lp, rfl, ⟨_, SqL.of hp1⟩, fun lc hlc => ?_⟩
    refine comp_list (K := K) (a := lp) (xs := ps.map V.str) (fun k σ ys H9 => ∃ v, σ = [v] ∧ Same H1 H9 ∧ H9 lc = some (.lst ys) ∧ ys = ((ps.take k).map wn).map V.bl) ⟨none, rfl, same_upd (Same.refl _) hlc, upd_same, rfl⟩ (fun k σ ys H9 _ ⟨_, _, s9, _⟩ => SqL.of (s9 _ _ hp1)) ?_ ?_
    · rintro k x σ ys H9 hk ⟨v, rfl, s9, hl9, eys⟩
      obtain ⟨p, hp, rfl⟩ : ∃ p, ps[k]? = some p ∧ x = V.str p := by
        rw [List.getElem?_map] at hk
        cases e : ps[k]? with
        | none => rw [e] at hk; cases hk
        | some p => rw [e] at hk; exact ⟨p, rfl, (Option.some.inj hk).symm⟩
      have hpm := hsp p (List.mem_of_getElem? hp)
      refine comp_yes ?_
      refine ⟨_, rfl, p, rfl, by omega, hpm.1, fun H10 s10 => ⟨s10 _ _ hl9, ?_, _, rfl, same_upd (s9.trans s10) hlc, upd_same, ?_⟩⟩
      · rw [eys, List.length_map, List.length_map, List.length_take]; exact smallX (by omega)
      · rw [List.take_add_one, hp, List.map_append, List.map_append, eys]; rfl
    · rintro σ ys H9 ⟨v, rfl, s9, hl9, eys⟩
      rw [List.length_map, List.take_length] at eys
      refine ⟨lc, _, rfl, SqL.of (by rw [hl9, eys]), _, rfl, ?_⟩
      have ea : (ps.map wn).all id = false := by rw [List.all_map]; exact hall
      rw [ea]
      exact iteT (q H9 (s1.trans s9))
theorem ok_readE (D : Def K mg "read" s_read ["text"]) (X4 : Err K mg "NoNote" c4) (C1 : CalE P w K mg base 2 "numbers_of" ["text"] (fun vs H Q E => spNums vs H Q E ∨ spNumsE c4 vs H Q E)) (C2 : Cal P w K mg base 2 "is_row" ["row"] spIsRow) : CalE P w K mg base 3 "read" ["text"] (spReadE c4) := by
  refine D.okE sc_read (fun vs H Q E h => ?_) (fun f cdv A outer s H vs Q E hr h => ?_)
  · obtain ⟨z, rfl, _⟩ := h
    rfl
  · obtain ⟨z, rfl, hz, hno, q⟩ := h
    refine ⟨_, pss_cons (ps_set (i := 1) sc_read.nd rfl (Or.inl rfl) (pe_fnE C1 passes_def hr (pa_cons (pv 0) pa_nil)))
      (pss_cons (ps_if (pt_not (pt_val (pe_fn C2 hr (pa_cons (pv 1) pa_nil)))) (pss_one (ps_raise throws_def X4.ex X4.nm (by rfl) rfl pe_str)) pss_nil) pss_never), ?_⟩
    have hz1 := hz.1
    have hcount : (Txt.split z ⟨#[32]⟩).length ≤ 502 := hz.count
    refine ⟨_, rfl, ?_⟩
    cases hall : (prts z).all wn with
    | false => exact .inr ⟨z, rfl, hz, hall, q⟩
    | true =>
      have hir : isRowC ((Txt.split z ⟨#[32]⟩).map val) = false := by
        cases e : isRowC ((Txt.split z ⟨#[32]⟩).map val) with
        | false => rfl
        | true => unfold readT at hno; rw [if_pos ⟨hall, e⟩] at hno; cases hno
      refine .inl ⟨z, rfl, by omega, hz.2, hall, fun l H1 hl0 hl s1 => ?_⟩
      refine ⟨_, rfl, l, _, rfl, hl, by rw [List.length_map]; omega, fun H2 s2 => ⟨_, rfl, ?_⟩⟩
      rw [hir]
      exact iteT (q H2 (s1.trans s2))
theorem sc_told : FnScope ["text", "e"] ["text"] (defScope s__law_told) := ⟨rfl, rfl, rfl, by decide +kernel, rfl, by decide +kernel, by decide +kernel⟩
theorem ok_toldT {cA : Addr} (D : Def K mg "_law_told" s__law_told ["text"]) (hA : mg "ApartError" = some (.ref cA)) (hx : PySem.W.exmOne K (.ref c4) (.ref cA) = some true) (kd : Kind K c0 c1 c2 c3 c4 c4 4)
    (C1 : CalE P w K mg base 3 "read" ["text"] (fun vs H Q E => spReadIs vs H Q E ∨ spReadE c4 vs H Q E)) (C2 : CalM P w K mg base 1 "_law_word_of" ["e"] (spWord K c0 c1 c2 c3 c4)) : Cal P w K mg base 4 "_law_told" ["text"] spToldT := by
  refine D.ok sc_told (fun vs H Q E h => ?_) (fun f cdv A outer s H vs Q E hr h => ?_)
  · obtain ⟨n, rfl, _⟩ := h
    rfl
  · obtain ⟨z, rfl, hz, qn, qy⟩ := h
    refine ⟨_, pss_one (ps_try (i := 1) (Ew := fun cls _ H' => cls = .ref c4 ∧ Same H H' ∧ readT z = none) ⟨rfl, rfl, rfl⟩ (fun pins Et hp => pss_one (ps_ret (pe_fnE C1 hp hr (pa_cons (pv 0) pa_nil)))) (fun a => pss_one (ps_ret (pe_fnM C2 ((hr.m.mono (by decide)).mark _) (pa_cons (pv 1) pa_nil))))
      hA (by rfl) (fun C H' hE => by obtain ⟨e, _⟩ := hE; cases e; exact hx) sc_told.nd rfl rfl), ?_⟩
    have hz1 := hz.1
    have hcount : (Txt.split z ⟨#[32]⟩).length ≤ 502 := hz.count
    refine ⟨⟨_, rfl, ?_⟩, fun C a H' σ' hl hE ha => ?_⟩
    · by_cases h : (prts z).all wn = true ∧ isRowC ((prts z).map val) = true
      · have er : readT z = some ((prts z).map val) := if_pos h
        refine .inl ⟨z, rfl, by omega, hz.2, h.1, by omega, (isRowC_iff _).mp h.2, fun l H' h0 h1 s' => qy _ er l H' h0 h1 s'⟩
      · have er : readT z = none := if_neg h
        exact .inr ⟨z, rfl, hz, er, fun H' s' => ⟨rfl, s', er⟩⟩
    · obtain ⟨e, s1, er⟩ := hE
      cases e
      have hl : σ'.length = 2 := hl
      refine ⟨_, by rw [List.getElem?_set_self (by omega)], a, c4, 4, rfl, upd_same, by decide, kd, fun H2 s2 => ?_⟩
      exact qn er H2 ((same_upd s1 (s1.free ha)).trans s2)
end
end Law
namespace Law
open PySem L2 SA TX
seal PE PA PT PW PS PSs PG PGs PI PC PIfs PSet OpR UnR CallR IxR SlR PO PJ
theorem due_no {z p : Str} (hp : p ∈ prts z) (h : lgood p = false) : dueT z = none := if_neg fun y => by
  have := List.all_eq_true.mp y.1 p hp
  rw [h] at this; cases this
theorem lgood_false {p : Str} (h : ¬ (p.cps.toList ≠ [] ∧ p.length ≤ 40 ∧ p.cps.toList.head? ≠ some 48 ∧ p.cps.toList.all digB = true)) : lgood p = false := by
  cases e : lgood p with
  | false => rfl
  | true => exact absurd (lgood_parts e) h
theorem str_ne {c : Nat} {d : Nat} (h : (⟨#[c]⟩ : Str) = ⟨#[d]⟩) : c = d := by
  have := congrArg (fun s : Str => s.cps.toList) h
  simpa using this
section
variable {P : Program} {w : World} {K : PySem.W.Frag} {mg : Str → Option Value} {base : Heap}
theorem sc_due : FnScope ["text", "row", "word"] ["text"] (defScope s__law_due) := ⟨rfl, rfl, rfl, by decide +kernel, rfl, by decide +kernel, by decide +kernel⟩
theorem ok_dueT (D : Def K mg "_law_due" s__law_due ["text"]) (B : Bn mg) (C1 : Cal P w K mg base 1 "_law_is_row" ["row"] spLIR) : Cal P w K mg base 2 "_law_due" ["text"] spDueT := by
  refine D.ok sc_due (fun vs H Q E h => ?_) (fun f cdv A outer s H vs Q E hr h => ?_)
  · obtain ⟨z, rfl, _⟩ := h
    rfl
  · obtain ⟨z, rfl, hz, qn, qy⟩ := h
    have nd1 : List.Nodup [("sign" : Str)] := by decide +kernel
    refine ⟨_, pss_cons (ps_set (i := 1) sc_due.nd rfl (Or.inl rfl) (pe_lst pa_nil))
      (pss_cons (ps_for PassesOwn.never rfl (pi_list (pe_bm PySem.F.plainAttrs_str PySem.F.slot_str_split PySem.F.type_str_split mt_split (pv 0) (pa_cons pe_str pa_nil))) (pg_name (i := 2) sc_due.nd rfl (Or.inl rfl)) pss_any)
      (pss_cons (ps_if (pt_not (pt_val (pe_fn C1 hr (pa_cons (pv 1) pa_nil)))) (pss_one (ps_ret pe_non)) pss_nil) (pss_one (ps_ret (pv 1))))), ?_⟩
    have hsp := split_small hz.2
    have hz1 := hz.1
    have hcount : (Txt.split z ⟨#[32]⟩).length ≤ 502 := hz.count
    refine ⟨by rw [sizeLine_eq]; decide, fun lr hlr => ?_⟩
    have s1 : Same H (upd H lr (.lst [])) := same_upd (Same.refl _) hlr
    have hr1 := upd_same (H := H) (a := lr) (o := .lst [])
    generalize upd H lr (.lst []) = H1 at *
    refine ⟨_, rfl, rfl, z, rfl, rfl, by omega, fun lp hlp => ?_⟩
    have s2 : Same H1 (upd H1 lp (.lst ((Txt.split z ⟨#[32]⟩).map V.str))) := same_upd (Same.refl _) hlp
    have hp2 := upd_same (H := H1) (a := lp) (o := .lst ((Txt.split z ⟨#[32]⟩).map V.str))
    generalize upd H1 lp (.lst ((Txt.split z ⟨#[32]⟩).map V.str)) = H2 at *
    have hpr : prts z = Txt.split z ⟨#[32]⟩ := rfl
    generalize hps : Txt.split z ⟨#[32]⟩ = ps at *
    have nrp : lr ≠ lp := ne_of_none hr1 hlp
    refine ⟨lp, rfl, ⟨_, SqL.of hp2⟩, for_list (K := K) (a := lp) (xs := ps.map V.str) (fun j σ H3 => (∃ v, σ = [some (.str z), some (.ref lr), v]) ∧ Same H H3 ∧ H3 lp = some (.lst (ps.map V.str)) ∧ H3 lr = some (.lst (((ps.take j).map val).map V.int)) ∧ (ps.take j).all lgood = true)
      ⟨⟨none, rfl⟩, s1.trans s2, hp2, s2 _ _ hr1, rfl⟩ (fun j σ H3 _ ⟨_, _, e, _⟩ => SqL.of e) ?_ ?_⟩
    · rintro j x σ H3 hj ⟨⟨v, rfl⟩, s3, hp3, hr3, hall⟩
      obtain ⟨p, hp, rfl⟩ : ∃ p, ps[j]? = some p ∧ x = V.str p := by
        rw [List.getElem?_map] at hj
        cases e : ps[j]? with
        | none => rw [e] at hj; cases hj
        | some p => rw [e] at hj; exact ⟨p, rfl, (Option.some.inj hj).symm⟩
      have hpm := hsp p (List.mem_of_getElem? hp)
      have hin : p ∈ prts z := by rw [hpr]; exact List.mem_of_getElem? hp
      have hlen := len_toList p
      have hj2 : j < ps.length := (List.getElem?_eq_some_iff.mp hp).1
      refine ⟨_, pss_cons (ps_if (PW.pt (pw_or (pt_cmpR op_eq (pv 2) pe_str (nomark _)) (pw_or (pt_cmpR op_gt (pe_callB call_len_str (by rfl) B.len PySem.boot_len (pa_cons (pv 2) pa_nil)) pe_int (nomark _))
            (pw_or1 (pt_cmpR op_eq (pe_ix ix_str (pv 2) pe_int (fun _ _ => rfl)) pe_str (nomark _)))))) (pss_one (ps_ret pe_non)) pss_nil) pss_any, ?_⟩
      refine ⟨_, rfl, rfl, _, rfl, ?_⟩
      refine ite2 (fun hc => ?_) (fun hc => ?_)
      · refine iteT (qn (due_no hin (lgood_false fun y => y.1 ?_)) H3 s3)
        have e : p = Str.ofString "" := by
          have := of_decide_eq_true hc
          injection this
        rw [e]; rfl
      have hne : p.cps.toList ≠ [] := fun y => hc (decide_eq_true (by
        have : p = Str.ofString "" := by
          apply Str.ext'
          apply Array.toList_inj.mp
          rw [y]; rfl
        rw [this]))
      obtain ⟨c, r, ecr⟩ : ∃ c r, p.cps.toList = c :: r := by
        match p.cps.toList, hne with
        | c :: r, _ => exact ⟨c, r, rfl⟩
      refine ⟨_, rfl, p, rfl, by rw [sizeLine_eq]; omega, _, _, rfl, rfl, _, rfl, ?_⟩
      refine ite2 (fun hc2 => ?_) (fun hc2 => ?_)
      · have h40 : (40 : Int) < (p.length : Int) := of_decide_eq_true hc2
        exact iteT (qn (due_no hin (lgood_false fun y => by have := y.2.1; omega)) H3 s3)
      have h40 : p.length ≤ 40 := by
        have : ¬ (40 : Int) < (p.length : Int) := fun y => hc2 (decide_eq_true y)
        omega
      refine ⟨_, rfl, p, 0, c, rfl, rfl, by rw [sizeLine_eq]; omega, atI_nat (j := 0) (by rw [ecr]; rfl), rfl, _, rfl, ?_⟩
      refine ite2 (fun hc3 => ?_) (fun hc3 => ?_)
      · refine qn (due_no hin (lgood_false fun y => y.2.2.1 ?_)) H3 s3
        have e := of_decide_eq_true hc3
        injection e with e
        rw [ecr, str_ne e]; rfl
      have h48 : p.cps.toList.head? ≠ some 48 := fun y => hc3 (decide_eq_true (by
        rw [ecr] at y
        have : c = 48 := Option.some.inj y
        rw [this]; rfl))
      refine ⟨_, pss_cons (ps_if (pt_cmpR op_gt (pe_callB (call_len_seqK (K := K) rfl) (by rfl) B.len PySem.boot_len (pa_cons (pe_comp (T := ["sign"]) (F := []) rfl ⟨rfl, by decide +kernel, by decide +kernel, rfl, trivial⟩ (pi_str (pv 2))
            (fun C s' H' fp => ⟨pg_name (i := 0) nd1 rfl (Or.inl rfl), pifs_one (pt_cmpR op_lt (pe_bmK (K := K) rfl PySem.F.plainAttrs_str PySem.F.slot_str_find PySem.F.type_str_find mt_find pe_str (pa_cons (pv 0) pa_nil)) pe_int (nomark _)), pv 0⟩)) pa_nil)) pe_int (nomark _)) (pss_one (ps_ret pe_non)) pss_nil) pss_any, ?_⟩
      refine ⟨_, rfl, p, rfl, hpm.1, fun lc hlc => ?_⟩
      refine comp_str (fun k σ ys H9 => ∃ v, σ = [v] ∧ Same H3 H9 ∧ H9 lc = some (.lst ys) ∧ ys = ((p.cps.toList.take k).filter fun c => !digB c).map (fun c => V.str ⟨#[c]⟩)) ⟨none, rfl, same_upd (Same.refl _) hlc, upd_same, rfl⟩ ?_ ?_
      · rintro k c σ ys H9 hk ⟨v, rfl, s9, hl9, eys⟩
        have hk' : p.cps.toList[k]? = some c := by rw [Array.getElem?_toList]; exact hk
        refine ⟨rfl, _, rfl, _, _, rfl, rfl, _, _, rfl, rfl, _, rfl, ?_⟩
        rw [find_neg]
        have ed : decide (c ∈ (Str.ofString "0123456789").cps.toList) = digB c := by
          have : (Str.ofString "0123456789").cps.toList = [48, 49, 50, 51, 52, 53, 54, 55, 56, 57] := by decide +kernel
          rw [this]
          unfold digB
          apply decide_eq_decide.mpr
          simp only [List.mem_cons, List.not_mem_nil, or_false]
          omega
        rw [ed]
        have ef : ((p.cps.toList.take (k + 1)).filter fun c => !digB c).map (fun c => V.str ⟨#[c]⟩) = ys ++ (if (!digB c) = true then [V.str ⟨#[c]⟩] else []) := by
          rw [List.take_add_one, hk', List.filter_append, List.map_append, ← eys]
          cases e : digB c <;> simp [e]
        refine ite2 (fun hb => ?_) (fun hb => ?_)
        · rw [if_pos hb] at ef
          refine ⟨_, rfl, hl9, ?_, _, rfl, same_upd s9 hlc, upd_same, ef.symm⟩
          rw [eys, List.length_map]
          have := List.length_filter_le (fun c => !digB c) (p.cps.toList.take k)
          rw [List.length_take] at this
          exact smallX (by omega)
        · rw [if_neg hb, List.append_nil] at ef
          exact ⟨_, rfl, s9, hl9, ef.symm⟩
      · rintro σ ys H9 ⟨v, rfl, s9, hl9, eys⟩
        rw [List.take_of_length_le (by omega)] at eys
        refine ⟨lc, _, rfl, .inl (SqL.of hl9), _, _, rfl, rfl, _, rfl, ?_⟩
        refine ite2 (fun hc4 => ?_) (fun hc4 => ?_)
        · refine qn (due_no hin (lgood_false fun y => ?_)) H9 (s3.trans s9)
          have h0 : (0 : Int) < (ys.length : Int) := of_decide_eq_true hc4
          have : (p.cps.toList.filter fun c => !digB c) = [] := by
            rw [List.filter_eq_nil_iff]
            intro c hc
            rw [List.all_eq_true.mp y.2.2.2 c hc]; decide
          rw [eys, this] at h0
          exact absurd h0 (by decide)
        · have h0 : ¬ (0 : Int) < (ys.length : Int) := fun y => hc4 (decide_eq_true y)
          have hd : p.cps.toList.all digB = true := by
            rw [eys, List.length_map] at h0
            have : (p.cps.toList.filter fun c => !digB c) = [] := List.eq_nil_of_length_eq_zero (by omega)
            rw [List.filter_eq_nil_iff] at this
            rw [List.all_eq_true]
            intro c hc
            have := this c hc
            cases e : digB c with
            | true => rfl
            | false => rw [e] at this; exact absurd rfl this
          have hg : lgood p = true := by
            unfold lgood
            simp only [Bool.and_eq_true, decide_eq_true_eq]
            exact ⟨⟨⟨hne, h40⟩, h48⟩, hd⟩
          have hrd := lgood_reads hg
          refine ⟨_, pss_one (ps_expr (pe_bm PySem.F.plainAttrs_list PySem.F.slot_list_append PySem.F.type_list_append mt_append (pv 1) (pa_cons (pe_callTy call_intT (by rfl) B.int PyProof.Rows.boot_int (pa_cons (pv 2) pa_nil)) pa_nil))), ?_⟩
          refine ⟨_, rfl, .inl ⟨rfl, _, SqL.of (s9 _ _ hr3)⟩, _, rfl, p, _, rfl, hrd.1, hrd.2, lr, _, _, rfl, rfl, s9 _ _ hr3, ?_, ⟨_, rfl⟩, same_upd (s3.trans s9) hlr, ?_, ?_, ?_⟩
          · rw [List.length_map, List.length_map, List.length_take]; exact smallX (by omega)
          · rw [upd_ne (Ne.symm nrp)]; exact s9 _ _ hp3
          · rw [upd_same, List.take_add_one, hp, Option.toList_some, List.map_append, List.map_append]; rfl
          · rw [List.take_add_one, hp, Option.toList_some, List.all_append, hall]; simp [hg]
    · rintro σ H3 ⟨⟨v, rfl⟩, s3, hp3, hr3, hall⟩
      rw [List.length_map, List.take_length] at hr3 hall
      refine ⟨_, rfl, lr, _, rfl, hr3, by rw [List.length_map]; omega, fun H4 s4 => ⟨_, rfl, ?_⟩⟩
      have hd : dueT z = if isRowC (ps.map val) = true then some (ps.map val) else none := by
        unfold dueT
        rw [hpr]
        by_cases e : isRowC (ps.map val) = true
        · rw [if_pos ⟨hall, e⟩, if_pos e]
        · rw [if_neg (fun y => e y.2), if_neg e]
      cases e : isRowC (ps.map val) with
      | false =>
        rw [e] at hd
        exact iteT (qn (by rw [hd]; rfl) H4 (s3.trans s4))
      | true =>
        rw [e] at hd
        exact iteF ⟨_, rfl, qy _ (by rw [hd]; rfl) lr H4 hlr (s4 _ _ hr3) (s3.trans s4)⟩
end
end Law
namespace Law
open PySem L2 SA TX
seal PE PA PT PW PS PSs PG PGs PI PC PIfs PSet OpR UnR CallR IxR SlR PO PJ
section
variable {P : Program} {w : World} {K : PySem.W.Frag} {mg : Str → Option Value} {base : Heap}
theorem sc_spoilT : FnScope ["script", "text", "some", "sign", "at", "way", "words", "one", "other", "odd"] ["script", "text"] (defScope s__law_spoilt) := ⟨rfl, rfl, rfl, by decide +kernel, rfl, by decide +kernel, by decide +kernel⟩
theorem ok_spoilT (D : Def K mg "_law_spoilt" s__law_spoilt ["script", "text"]) (B : Bn mg) (C1 : Cal P w K mg base 1 "_law_cell_at" ["script", "k"] (spCell K)) : Cal P w K mg base 2 "_law_spoilt" ["script", "text"] (spSpoilT K) := by
  refine D.ok sc_spoilT (fun vs H Q E h => ?_) (fun f cdv A outer s H vs Q E hr h => ?_)
  · obtain ⟨a, ns, z, rfl, _⟩ := h
    rfl
  · obtain ⟨a, ns, z, rfl, hS, hz, q⟩ := h
    refine ⟨_, pss_cons (ps_set (i := 2) sc_spoilT.nd rfl (Or.inl rfl) (pe_lst (pa_cons pe_str (pa_cons pe_str (pa_cons pe_str (pa_cons pe_str (pa_cons pe_str (pa_cons pe_str (pa_cons pe_str (pa_cons pe_str (pa_cons pe_str (pa_cons pe_str (pa_cons pe_str (pa_cons pe_str (pa_cons pe_str (pa_cons pe_str (pa_cons pe_str (pa_cons pe_str pa_nil))))))))))))))))))
      (pss_cons (ps_set (i := 3) sc_spoilT.nd rfl (Or.inl rfl) (pe_ix ix_list (pv 2) (pe_op op_mod (pe_fn C1 hr (pa_cons (pv 0) (pa_cons pe_int pa_nil))) pe_int) (fun _ _ => rfl)))
      (pss_cons (ps_set (i := 4) sc_spoilT.nd rfl (Or.inl rfl) (pe_op op_mod (pe_fn C1 hr (pa_cons (pv 0) (pa_cons pe_int pa_nil))) (pe_op op_add (pe_callB call_len_str (by rfl) B.len PySem.boot_len (pa_cons (pv 1) pa_nil)) pe_int)))
      (pss_cons (ps_set (i := 5) sc_spoilT.nd rfl (Or.inl rfl) (pe_op op_mod (pe_fn C1 hr (pa_cons (pv 0) (pa_cons pe_int pa_nil))) pe_int)) pss_any))), ?_⟩
    have hz1 := hz.1
    have hzl : z.length ≤ sizeLine := by rw [sizeLine_eq]; omega
    have big : ∀ {n : Nat}, n ≤ 1000 → n ≤ sizeLine := fun h => by rw [sizeLine_eq]; omega
    refine ⟨big (by decide), fun l1 hl1 => ?_⟩
    have s1 : Same H (upd H l1 (.lst (sgns.map V.str))) := same_upd (Same.refl _) hl1
    have h1 := upd_same (H := H) (a := l1) (o := .lst (sgns.map V.str))
    show gName _ _ _ (upd H l1 (.lst (sgns.map V.str))) _
    generalize upd H l1 (.lst (sgns.map V.str)) = H1 at *
    obtain ⟨y, hy, ey⟩ := at_mod (ys := sgns.map V.str) (n := 16) (ns.getD 4 0) rfl (by decide)
    obtain ⟨sg, rfl, hsg⟩ := sgns_ok y hy
    have hsg1 := hsg.1
    refine ⟨_, rfl, _, rfl, a, ns, 4, rfl, s1.seq hS, _, _, rfl, rfl, (by show (0 : Int) < 16; decide), l1, _, _, _, rfl, rfl, SqL.of h1, ey, ?_⟩
    refine ⟨_, rfl, a, ns, 5, rfl, s1.seq hS, _, rfl, z, rfl, hzl, _, _, rfl, rfl, _, _, rfl, rfl, (by show (0 : Int) < (z.length : Int) + 1; omega), ?_⟩
    refine ⟨_, rfl, a, ns, 6, rfl, s1.seq hS, _, _, rfl, rfl, (by show (0 : Int) < 5; decide), ?_⟩
    show ∃ t, _
    generalize ns.getD 5 0 % ((z.length : Int) + 1) = at'
    generalize ns.getD 6 0 % 5 = way
    refine ⟨_, pss_cons (ps_if (pt_cmpR op_eq (pv 5) pe_int (nomark _)) (pss_one (ps_ret (pe_op op_add_str (pe_op op_add_str (pe_slice sl_str (pv 1) po_none (po_some (pv 4))) (pv 3)) (pe_slice sl_str (pv 1) (po_some (pv 4)) po_none)))) pss_nil) pss_any, ?_⟩
    refine ⟨_, rfl, rfl, _, rfl, ite2 (fun _ => ?_) (fun _ => ?_)⟩
    · refine ⟨_, rfl, _, rfl, _, rfl, z, rfl, hzl, fun z1 p1 => ?_⟩
      have a1 := hz.piece p1
      refine ⟨_, rfl, _, _, rfl, rfl, big (by have := a1.1; omega), ?_⟩
      have a2 := a1.app hsg (Nat.le_refl _)
      refine ⟨_, rfl, _, rfl, _, rfl, z, rfl, hzl, fun z2 p2 => ?_⟩
      have a3 := hz.piece p2
      refine ⟨_, _, rfl, rfl, big (by have := a2.1; have := a3.1; omega), q _ _ (a2.app a3 (by decide)) s1⟩
    refine ⟨_, pss_cons (ps_if (pt_cmpR op_eq (pv 5) pe_int (nomark _)) (pss_one (ps_ret (pe_op op_add_str (pe_slice sl_str (pv 1) po_none (po_some (pv 4))) (pe_slice sl_str (pv 1) (po_some (pe_op op_add (pv 4) pe_int)) po_none)))) pss_nil) pss_any, ?_⟩
    refine ⟨_, rfl, rfl, _, rfl, ite2 (fun _ => ?_) (fun _ => ?_)⟩
    · refine ⟨_, rfl, _, rfl, _, rfl, z, rfl, hzl, fun z1 p1 => ?_⟩
      have a1 := hz.piece p1
      refine ⟨_, rfl, _, rfl, _, _, rfl, rfl, _, rfl, z, rfl, hzl, fun z2 p2 => ?_⟩
      have a3 := hz.piece p2
      refine ⟨_, _, rfl, rfl, big (by have := a1.1; have := a3.1; omega), q _ _ (a1.app a3 (by decide)) s1⟩
    refine ⟨_, pss_cons (ps_if (pt_cmpR op_eq (pv 5) pe_int (nomark _)) (pss_one (ps_ret (pe_op op_add_str (pe_op op_add_str (pe_slice sl_str (pv 1) po_none (po_some (pv 4))) (pv 3)) (pe_slice sl_str (pv 1) (po_some (pe_op op_add (pv 4) pe_int)) po_none)))) pss_nil) pss_any, ?_⟩
    refine ⟨_, rfl, rfl, _, rfl, ite2 (fun _ => ?_) (fun _ => ?_)⟩
    · refine ⟨_, rfl, _, rfl, _, rfl, z, rfl, hzl, fun z1 p1 => ?_⟩
      have a1 := hz.piece p1
      refine ⟨_, rfl, _, _, rfl, rfl, big (by have := a1.1; omega), ?_⟩
      have a2 := a1.app hsg (Nat.le_refl _)
      refine ⟨_, rfl, _, rfl, _, _, rfl, rfl, _, rfl, z, rfl, hzl, fun z2 p2 => ?_⟩
      have a3 := hz.piece p2
      refine ⟨_, _, rfl, rfl, big (by have := a2.1; have := a3.1; omega), q _ _ (a2.app a3 (by decide)) s1⟩
    refine ⟨_, pss_cons (ps_if (pt_cmpR op_eq (pv 5) pe_int (nomark _)) pss_any pss_nil) pss_any, ?_⟩
    refine ⟨_, rfl, rfl, _, rfl, ite2 (fun _ => ?_) (fun _ => ?_)⟩
    · refine ⟨_, pss_cons (ps_set (i := 6) sc_spoilT.nd rfl (Or.inl rfl) (pe_bm PySem.F.plainAttrs_str PySem.F.slot_str_split PySem.F.type_str_split mt_split (pv 1) (pa_cons pe_str pa_nil)))
        (pss_cons (ps_set (i := 7) sc_spoilT.nd rfl (Or.inl rfl) (pe_op op_mod (pe_fn C1 hr (pa_cons (pv 0) (pa_cons pe_int pa_nil))) (pe_callB call_len_seq (by rfl) B.len PySem.boot_len (pa_cons (pv 6) pa_nil))))
        (pss_cons (ps_set (i := 8) sc_spoilT.nd rfl (Or.inl rfl) (pe_op op_mod (pe_fn C1 hr (pa_cons (pv 0) (pa_cons pe_int pa_nil))) (pe_callB call_len_seq (by rfl) B.len PySem.boot_len (pa_cons (pv 6) pa_nil))))
        (pss_cons (ps_asg (pe_tup (pa_cons (pe_ix ix_list (pv 6) (pv 8) (fun _ _ => rfl)) (pa_cons (pe_ix ix_list (pv 6) (pv 7) (fun _ _ => rfl)) pa_nil))) (pg_tup rfl (pgs_cons (pg_sub (pv 6) (pv 7) set_list) (pgs_cons (pg_sub (pv 6) (pv 8) set_list) pgs_nil))))
        (pss_one (ps_ret (pe_bm PySem.F.plainAttrs_str PySem.F.slot_str_join PySem.F.type_str_join mt_join pe_str (pa_cons (pv 6) pa_nil))))))), ?_⟩
      have hsp := split_small hz.2
      have hsum := split_sum z
      have hcount : (Txt.split z ⟨#[32]⟩).length ≤ 202 := hz.count
      have hpos : 0 < (Txt.split z ⟨#[32]⟩).length := by
        rw [split_spl, List.length_map]
        obtain ⟨x, t, e⟩ := spl_ne 32 z.cps.toList
        rw [e]; simp
      refine ⟨_, rfl, rfl, z, rfl, rfl, by omega, fun lp hlp => ?_⟩
      have s2 : Same H1 (upd H1 lp (.lst ((Txt.split z ⟨#[32]⟩).map V.str))) := same_upd (Same.refl _) hlp
      have hp2 := upd_same (H := H1) (a := lp) (o := .lst ((Txt.split z ⟨#[32]⟩).map V.str))
      have hlp0 : H lp = none := s1.free hlp
      generalize upd H1 lp (.lst ((Txt.split z ⟨#[32]⟩).map V.str)) = H2 at *
      generalize hps : Txt.split z ⟨#[32]⟩ = ps at *
      have el : (((ps.map V.str).length : Nat) : Int) = (ps.length : Int) := by rw [List.length_map]
      have s02 := s1.trans s2
      refine ⟨_, rfl, a, ns, 7, rfl, s02.seq hS, _, rfl, lp, _, rfl, .inl (SqL.of hp2), _, _, rfl, rfl, by rw [el]; omega, ?_⟩
      refine ⟨_, rfl, a, ns, 8, rfl, s02.seq hS, _, rfl, lp, _, rfl, .inl (SqL.of hp2), _, _, rfl, rfl, by rw [el]; omega, ?_⟩
      rw [el]
      obtain ⟨i, ei, hi⟩ := at_modJ (n := ps.length) (ns.getD 7 0) hpos
      obtain ⟨j, ej, hj⟩ := at_modJ (n := ps.length) (ns.getD 8 0) hpos
      rw [show (fun (i j : Int) => V.int (i % j)) (ns.getD 7 0) (ps.length : Int) = V.int (i : Int) from congrArg V.int ei, show (fun (i j : Int) => V.int (i % j)) (ns.getD 8 0) (ps.length : Int) = V.int (j : Int) from congrArg V.int ej]
      have gi : (ps.map V.str)[i]? = some (V.str ps[i]) := by rw [List.getElem?_map, List.getElem?_eq_getElem hi]; rfl
      have gj : (ps.map V.str)[j]? = some (V.str ps[j]) := by rw [List.getElem?_map, List.getElem?_eq_getElem hj]; rfl
      refine ⟨_, rfl, _, rfl, lp, _, _, _, rfl, rfl, SqL.of hp2, atI_nat gj, _, rfl, _, rfl, lp, _, _, _, rfl, rfl, SqL.of hp2, atI_nat gi, big (show 2 ≤ 1000 by decide), fun lt hlt => ?_⟩
      have s3 : Same H2 (upd H2 lt (.tup [V.str ps[j], V.str ps[i]])) := same_upd (Same.refl _) hlt
      have ht3 := upd_same (H := H2) (a := lt) (o := .tup [V.str ps[j], V.str ps[i]])
      have hp3 := s3 _ _ hp2
      generalize upd H2 lt (.tup [V.str ps[j], V.str ps[i]]) = H3 at *
      refine ⟨lt, _, rfl, SqT.of ht3, rfl, _, _, rfl, _, rfl, _, rfl, lp, _, _, i, rfl, rfl, hp3, ixN_nat (by rw [List.length_map]; exact hi), ?_⟩
      refine ⟨_, _, rfl, _, rfl, _, rfl, lp, _, _, j, rfl, rfl, upd_same, ixN_nat (by rw [List.length_set, List.length_map]; exact hj), rfl, ?_⟩
      have hw : ((ps.map V.str).set i (V.str ps[j])).set j (V.str ps[i]) = ((ps.set i ps[j]).set j ps[i]).map V.str := by rw [List.map_set, List.map_set]
      rw [hw]
      have pm : ((ps.set i ps[j]).set j ps[i]).Perm ps := List.set_set_perm hi hj
      generalize (ps.set i ps[j]).set j ps[i] = ws at *
      have hws : ∀ y ∈ ws, y.cps.all (· < 128) = true ∧ y.length ≤ z.length := fun y hy => hsp y (pm.mem_iff.mp hy)
      have hjp : Plain 500 (Txt.join (Str.ofString " ") ws) := (join_plain (sep := Str.ofString " ") ws 200 202 (fun y hy => (hws y hy).1) (by decide +kernel) (by decide +kernel) (by
        have : (ws.map Str.length).sum = (ps.map Str.length).sum := (pm.map Str.length).sum_nat
        omega) (by rw [pm.length_eq]; exact hcount)).mono (by decide)
      refine ⟨rfl, _, rfl, _, lp, ws, rfl, rfl, SqL.of upd_same, ?_, q _ _ hjp ?_⟩
      · unfold JoinOk
        rw [Bool.not_eq_true']
        refine PySem.StrLaws.joinFits (B := 200) (fun y hy => by have := (hws y hy).2; omega) ?_
        rw [pm.length_eq]
        show ps.length * 200 + ps.length * 1 ≤ 16777216
        omega
      · exact same_upd (same_upd (s02.trans s3) hlp0) hlp0
    refine ⟨_, pss_cons (ps_set (i := 9) sc_spoilT.nd rfl (Or.inl rfl) (pe_lst (pa_cons pe_str (pa_cons pe_str (pa_cons pe_str (pa_cons pe_str (pa_cons pe_str (pa_cons pe_str (pa_cons pe_str (pa_cons pe_str pa_nil))))))))))
      (pss_cons (ps_set (i := 9) sc_spoilT.nd rfl (Or.inl rfl) (pe_op op_cat (pv 9) (pe_lst (pa_cons pe_str (pa_cons pe_str (pa_cons pe_str (pa_cons pe_str (pa_cons pe_str (pa_cons (pe_op op_add_str (pe_op op_mulS pe_str pe_int) pe_str) pa_nil)))))))))
      (pss_one (ps_ret (pe_ix ix_list (pv 9) (pe_op op_mod (pe_fn C1 hr (pa_cons (pv 0) (pa_cons pe_int pa_nil))) pe_int) (fun _ _ => rfl))))), ?_⟩
    refine ⟨big (by decide), fun l2 hl2 => ?_⟩
    have s2 : Same H1 (upd H1 l2 (.lst (odds.map V.str))) := same_upd (Same.refl _) hl2
    have h2 := upd_same (H := H1) (a := l2) (o := .lst (odds.map V.str))
    show gName _ _ _ (upd H1 l2 (.lst (odds.map V.str))) _
    generalize upd H1 l2 (.lst (odds.map V.str)) = H2 at *
    have n40 : nines.length ≤ 40 := nines_ok.1
    refine ⟨_, rfl, _, _, rfl, rfl, by decide, by decide, by decide +kernel, by decide +kernel, big (by show nines.length ≤ 1000; omega), _, _, rfl, rfl, big (by show nines.length + 2 ≤ 1000; omega), big (by decide), fun l3 hl3 => ?_⟩
    have s3 : Same H2 (upd H2 l3 (.lst (oddz.map V.str))) := same_upd (Same.refl _) hl3
    have h3 := upd_same (H := H2) (a := l3) (o := .lst (oddz.map V.str))
    show rCat _ _ (upd H2 l3 (.lst (oddz.map V.str))) _
    have h23 := s3 _ _ h2
    generalize upd H2 l3 (.lst (oddz.map V.str)) = H3 at *
    refine ⟨l2, l3, _, _, rfl, rfl, h23, h3, big (by decide), fun l4 hl4 => ?_⟩
    have s4 : Same H3 (upd H3 l4 (.lst (odds.map V.str ++ oddz.map V.str))) := same_upd (Same.refl _) hl4
    have h4 := upd_same (H := H3) (a := l4) (o := .lst (odds.map V.str ++ oddz.map V.str))
    generalize upd H3 l4 (.lst (odds.map V.str ++ oddz.map V.str)) = H4 at *
    have s04 := s1.trans (s2.trans (s3.trans s4))
    obtain ⟨y, hy, ey⟩ := at_mod (ys := odds.map V.str ++ oddz.map V.str) (n := 14) (ns.getD 7 0) rfl (by decide)
    obtain ⟨od, rfl, hod⟩ := odds_ok y hy
    exact ⟨_, rfl, _, rfl, a, ns, 7, rfl, s04.seq hS, _, _, rfl, rfl, (by show (0 : Int) < 14; decide), l4, _, _, _, rfl, rfl, SqL.of h4, ey, q _ _ (hod.mono (by decide)) s04⟩
end
end Law
namespace Law
open PySem L2 SA TX
seal PE PA PT PW PS PSs PG PGs PI PC PIfs PSet OpR UnR CallR IxR SlR PO
section
variable {P : Program} {w : World} {K : PySem.W.Frag} {mg : Str → Option Value} {base : Heap}
theorem sc_law : FnScope ["script", "row", "text", "due", "found"] ["script"] (defScope s_law) := ⟨rfl, rfl, rfl, by decide +kernel, rfl, by decide +kernel, by decide +kernel⟩
theorem ok_law {f : Addr} {fd : FuncData} (F : Fun K "law" "law" s_law f fd) (B : Bn mg) (hStr : mg "str" = none) (C1 : Cal P w K mg base 1 "_law_cell_at" ["script", "k"] (spCell K)) (C2 : Cal P w K mg base 12 "_law_small_row" ["script", "first"] (spSmall K))
    (C3 : Cal P w K mg base 12 "_law_spoilt" ["script", "text"] (spSpoilT K)) (C4 : Cal P w K mg base 12 "_law_due" ["text"] spDueT) (C5 : Cal P w K mg base 12 "_law_told" ["text"] spToldT) : FnOk P w K mg base CX0 13 f fd ["script"] (spLaw K) := by
  refine F.ok sc_law (fun vs H Q E h => ?_) (fun cdv A outer sh H vs Q E hr h => ?_)
  · obtain ⟨a, ns, rfl, _⟩ := h
    rfl
  · obtain ⟨a, ns, rfl, hSc, hlen, q⟩ := h
    have r1 := hr.mono (show 1 ≤ 12 by decide)
    have nd1 : List.Nodup [("number" : Str)] := by decide +kernel
    have main : ∀ (l : Addr) (z : Str) (H4 : Hp), Plain 500 z → tAny (cxOf CX0 P w K mg base ["script", "row", "text", "due", "found"] "law" (defScope s_law) f cdv A outer sh H E).nox ((defBody s_law).drop 3) { nx := fun _ H' => Q .non H', rt := Q } [some (.ref a), some (.ref l), some (.str z), none, none] H4 := by
      intro l z H4 hz
      refine ⟨_, pss_cons (ps_set (i := 3) sc_law.nd rfl (Or.inl rfl) (pe_fn C4 hr (pa_cons (pv 2) pa_nil)))
        (pss_cons (ps_set (i := 4) sc_law.nd rfl (Or.inl rfl) (pe_fn C5 hr (pa_cons (pv 2) pa_nil)))
        (pss_cons (ps_if (pt_cmpR op_isN (pv 3) pe_non (nomark _)) (pss_one (ps_ret (pe_cmpR op_eq (pv 4) pe_str (nomark _)))) pss_nil)
        (pss_one (ps_ret (pe_and (pe_callB call_isinst (by rfl) B.isinstance PyProof.Rows.boot_isinstance (pa_cons (pv 4) (pa_cons (pe_bltn (v := .ty "list") (by rfl) B.list PyProof.Rows.boot_list rfl) pa_nil)))
          (pe_one (pe_cmpR (op_eqL hr.units) (pv 4) (pv 3) (nomark _)))))))), ?_⟩
      refine ⟨_, rfl, z, rfl, hz, fun en H5 s5 => ?_, fun row ey ld H5 hd0 hd s5 => ?_⟩
      · have er : readT z = none := by rw [← due_read]; exact en
        refine ⟨_, rfl, z, rfl, hz, fun _ H6 s6 => ?_, fun row e => by rw [er] at e; cases e⟩
        refine ⟨_, rfl, rfl, _, rfl, ?_⟩
        rw [decide_eq_true rfl]
        refine iteT ⟨_, rfl, rfl, ?_⟩
        rw [decide_eq_true rfl]
        exact q H6
      · have er : readT z = some row := by rw [← due_read]; exact ey
        refine ⟨_, rfl, z, rfl, hz, fun e => (by rw [er] at e; cases e), fun row2 e lf H6 hf0 hf s6 => ?_⟩
        rw [er] at e
        cases e
        refine ⟨_, rfl, rfl, _, rfl, ?_⟩
        rw [decide_eq_false (fun y => by cases y)]
        refine iteF ⟨_, rfl, _, _, _, _, rfl, .lst hf, kit_same, ?_⟩
        refine ⟨_, rfl, iteT ⟨_, rfl, _, rfl, lf, ld, row, row, rfl, rfl, SqL.of hf, SqL.of (s6 _ _ hd), ?_⟩⟩
        rw [decide_eq_true rfl]
        exact q H6
    refine ⟨_, pss_cons (ps_set (i := 1) sc_law.nd rfl (Or.inl rfl) (pe_fn C2 hr (pa_cons (pv 0) (pa_cons pe_int pa_nil))))
      (pss_cons (ps_set (i := 2) sc_law.nd rfl (Or.inl rfl) (pe_bm PySem.F.plainAttrs_str PySem.F.slot_str_join PySem.F.type_str_join mt_join pe_str (pa_cons
        (pe_comp (T := ["number"]) (F := []) rfl ⟨rfl, by decide +kernel, by decide +kernel, rfl, trivial⟩ (pi_list (pv 1)) (fun C s' H' fp => ⟨pg_name (i := 0) nd1 rfl (Or.inl rfl), pifs_nil, pe_callTy call_str_int (by rfl) hStr PyProof.Rows.boot_str (pa_cons (pv 0) pa_nil)⟩)) pa_nil)))
      (pss_cons (ps_if (pt_cmpR op_gt (pe_op op_mod (pe_fn C1 r1 (pa_cons (pv 0) (pa_cons pe_int pa_nil))) pe_int) pe_int (nomark _)) (pss_one (ps_set (i := 2) sc_law.nd rfl (Or.inl rfl) (pe_fn C3 hr (pa_cons (pv 0) (pa_cons (pv 2) pa_nil))))) pss_nil) pss_any)), ?_⟩
    refine ⟨_, rfl, a, ns, 0, rfl, hSc, fun l s row H1 hs hrow s1 hl0 hl => ?_⟩
    have hlr := hrow.1
    have h9 : 1 ≤ s ∧ s ≤ 9 := by
      simp only [List.mem_cons, List.not_mem_nil, or_false] at hs; omega
    have hmem : ∀ m ∈ row, 1 ≤ m ∧ m ≤ 400 := fun m hm => by have := hrow.mem m hm; omega
    refine ⟨rfl, _, rfl, l, rfl, ⟨_, SqL.of hl⟩, fun lc hlc => ?_⟩
    refine comp_list (K := K) (a := l) (xs := row.map V.int) (fun k σ ys H9 => ∃ v, σ = [v] ∧ Same H1 H9 ∧ H9 lc = some (.lst ys) ∧ ys = ((row.take k).map fig).map V.str) ⟨none, rfl, same_upd (Same.refl _) hlc, upd_same, rfl⟩ (fun k σ ys H9 _ ⟨_, _, s9, _⟩ => SqL.of (s9 _ _ hl)) ?_ ?_
    · rintro k x σ ys H9 hk ⟨v, rfl, s9, hl9, eys⟩
      obtain ⟨n, hn, rfl⟩ := map_get hk
      have hm := hmem n (List.mem_of_getElem? hn)
      refine comp_yes ?_
      refine ⟨_, rfl, n, rfl, fig_small hm.1 hm.2, hl9, ?_, _, rfl, same_upd s9 hlc, upd_same, ?_⟩
      · rw [eys, List.length_map, List.length_map, List.length_take]; exact small1000 (by omega)
      · rw [List.take_add_one, hn, List.map_append, List.map_append, eys]; rfl
    · rintro σ ys H9 ⟨v, rfl, s9, hl9, eys⟩
      rw [List.length_map, List.take_length] at eys
      have hne : row ≠ [] := fun y => by rw [y] at hlr; simp at hlr; omega
      have hpl : Plain 200 (txt row) := by
        match row, hne, hmem, hlr with
        | n0 :: rest, _, hmem, hlr =>
          refine ⟨?_, txt_small rest n0 hmem⟩
          have h1 := txtFrom_len (acc := fig n0) (r := rest) fun m hm => hmem m (List.mem_cons_of_mem _ hm)
          have h2 := fig_len (hmem n0 List.mem_cons_self).1 (hmem n0 List.mem_cons_self).2
          rw [List.length_cons] at hlr
          show (txtFrom (fig n0) rest).length ≤ _
          omega
      refine ⟨_, lc, row.map fig, rfl, rfl, SqL.of (by rw [hl9, eys]), ?_, ?_⟩
      · unfold JoinOk
        rw [Bool.not_eq_true']
        refine PySem.StrLaws.joinFits (B := 4) (fun y hy => ?_) ?_
        · obtain ⟨n, hn, rfl⟩ := List.mem_map.mp hy
          exact fig_len (hmem n hn).1 (hmem n hn).2
        · rw [List.length_map]
          show row.length * 4 + row.length * 1 ≤ 16777216
          omega
      · rw [join_txt row hne]
        refine ⟨_, rfl, a, ns, 3, rfl, (s1.trans s9).seq hSc, _, _, rfl, rfl, (by show (0 : Int) < 4; decide), _, _, rfl, rfl, _, rfl, ?_⟩
        refine ite2 (fun _ => ?_) (fun _ => main l (txt row) H9 (hpl.mono (by decide)))
        refine ⟨_, rfl, _, rfl, a, ns, txt row, rfl, (s1.trans s9).seq hSc, hpl, fun z' H10 hz' s10 => ?_⟩
        exact main l z' H10 hz'
end
end Law
namespace Law
open PySem L2 SA
theorem all_mk {l : PySem.W.OpenLaw} {w : World} {K : PySem.W.Frag} {h : Heap} {mg : Str → Option Value} {fa : Addr} (X : K.In h) (G : h.Ns mainGlobals mg) (hfa : mg "law" = some (.ref fa))
    {f9 : Addr} {od9 an9 : Option Addr} {sl9 : Array (Option Value)} {oc9 kV9 dc9 pm9 cd9 ct9 : Value}
    {f10 : Addr} {od10 an10 : Option Addr} {sl10 : Array (Option Value)} {oc10 kV10 dc10 pm10 cd10 ct10 : Value}
    {f11 : Addr} {od11 an11 : Option Addr} {sl11 : Array (Option Value)} {oc11 kV11 dc11 pm11 cd11 ct11 : Value}
    {f14 : Addr} {od14 an14 : Option Addr} {sl14 : Array (Option Value)} {oc14 kV14 dc14 pm14 cd14 ct14 : Value}
    {f15 : Addr} {od15 an15 : Option Addr} {sl15 : Array (Option Value)} {oc15 kV15 dc15 pm15 cd15 ct15 : Value}
    {f16 : Addr} {od16 an16 : Option Addr} {sl16 : Array (Option Value)} {oc16 kV16 dc16 pm16 cd16 ct16 : Value}
    {f18 : Addr} {od18 an18 : Option Addr} {sl18 : Array (Option Value)} {oc18 kV18 dc18 pm18 cd18 ct18 : Value}
    {f19 : Addr} {od19 an19 : Option Addr} {sl19 : Array (Option Value)} {oc19 kV19 dc19 pm19 cd19 ct19 : Value}
    {f20 : Addr} {od20 an20 : Option Addr} {sl20 : Array (Option Value)} {oc20 kV20 dc20 pm20 cd20 ct20 : Value}
    {f21 : Addr} {od21 an21 : Option Addr} {sl21 : Array (Option Value)} {oc21 kV21 dc21 pm21 cd21 ct21 : Value}
    {f22 : Addr} {od22 an22 : Option Addr} {sl22 : Array (Option Value)} {oc22 kV22 dc22 pm22 cd22 ct22 : Value}
    {f23 : Addr} {od23 an23 : Option Addr} {sl23 : Array (Option Value)} {oc23 kV23 dc23 pm23 cd23 ct23 : Value}
    {f24 : Addr} {od24 an24 : Option Addr} {sl24 : Array (Option Value)} {oc24 kV24 dc24 pm24 cd24 ct24 : Value}
    {f25 : Addr} {od25 an25 : Option Addr} {sl25 : Array (Option Value)} {oc25 kV25 dc25 pm25 cd25 ct25 : Value}
    {f26 : Addr} {od26 an26 : Option Addr} {sl26 : Array (Option Value)} {oc26 kV26 dc26 pm26 cd26 ct26 : Value}
    {f27 : Addr} {od27 an27 : Option Addr} {sl27 : Array (Option Value)} {oc27 kV27 dc27 pm27 cd27 ct27 : Value}
    {tk : Tok}
    {tf : Tok} {fs : Str}
    {ec0 ec1 ec2 ec3 ec4 ecA : Addr}
    (a9 : PySem.W.nsIn K mainGlobals "found_places" = some (some (.ref f9))) (l9 : K.lookup f9 = some ⟨oc9, od9, .func (PySem.W.fnOf "found_places" "found_places" (defArgs s_found_places) (defBody s_found_places) (defScope s_found_places) .none kV9 dc9 pm9 an9 cd9 ct9), sl9⟩) (c9 : PySem.W.codeIn K cd9 "found_places" = true) (k9 : PySem.W.keepIn K (.ref f9) = true)
    (a10 : PySem.W.nsIn K mainGlobals "stands_well" = some (some (.ref f10))) (l10 : K.lookup f10 = some ⟨oc10, od10, .func (PySem.W.fnOf "stands_well" "stands_well" (defArgs s_stands_well) (defBody s_stands_well) (defScope s_stands_well) .none kV10 dc10 pm10 an10 cd10 ct10), sl10⟩) (c10 : PySem.W.codeIn K cd10 "stands_well" = true) (k10 : PySem.W.keepIn K (.ref f10) = true)
    (a11 : PySem.W.nsIn K mainGlobals "is_row" = some (some (.ref f11))) (l11 : K.lookup f11 = some ⟨oc11, od11, .func (PySem.W.fnOf "is_row" "is_row" (defArgs s_is_row) (defBody s_is_row) (defScope s_is_row) .none kV11 dc11 pm11 an11 cd11 ct11), sl11⟩) (c11 : PySem.W.codeIn K cd11 "is_row" = true) (k11 : PySem.W.keepIn K (.ref f11) = true)
    (a14 : PySem.W.nsIn K mainGlobals "writes_number" = some (some (.ref f14))) (l14 : K.lookup f14 = some ⟨oc14, od14, .func (PySem.W.fnOf "writes_number" "writes_number" (defArgs s_writes_number) (defBody s_writes_number) (defScope s_writes_number) .none kV14 dc14 pm14 an14 cd14 ct14), sl14⟩) (c14 : PySem.W.codeIn K cd14 "writes_number" = true) (k14 : PySem.W.keepIn K (.ref f14) = true)
    (a15 : PySem.W.nsIn K mainGlobals "numbers_of" = some (some (.ref f15))) (l15 : K.lookup f15 = some ⟨oc15, od15, .func (PySem.W.fnOf "numbers_of" "numbers_of" (defArgs s_numbers_of) (defBody s_numbers_of) (defScope s_numbers_of) .none kV15 dc15 pm15 an15 cd15 ct15), sl15⟩) (c15 : PySem.W.codeIn K cd15 "numbers_of" = true) (k15 : PySem.W.keepIn K (.ref f15) = true)
    (a16 : PySem.W.nsIn K mainGlobals "read" = some (some (.ref f16))) (l16 : K.lookup f16 = some ⟨oc16, od16, .func (PySem.W.fnOf "read" "read" (defArgs s_read) (defBody s_read) (defScope s_read) .none kV16 dc16 pm16 an16 cd16 ct16), sl16⟩) (c16 : PySem.W.codeIn K cd16 "read" = true) (k16 : PySem.W.keepIn K (.ref f16) = true)
    (a18 : PySem.W.nsIn K mainGlobals "_law_cell_at" = some (some (.ref f18))) (l18 : K.lookup f18 = some ⟨oc18, od18, .func (PySem.W.fnOf "_law_cell_at" "_law_cell_at" (defArgs s__law_cell_at) (defBody s__law_cell_at) (defScope s__law_cell_at) .none kV18 dc18 pm18 an18 cd18 ct18), sl18⟩) (c18 : PySem.W.codeIn K cd18 "_law_cell_at" = true) (k18 : PySem.W.keepIn K (.ref f18) = true)
    (a19 : PySem.W.nsIn K mainGlobals "_law_draw" = some (some (.ref f19))) (l19 : K.lookup f19 = some ⟨oc19, od19, .func (PySem.W.fnOf "_law_draw" "_law_draw" (defArgs s__law_draw) (defBody s__law_draw) (defScope s__law_draw) .none kV19 dc19 pm19 an19 cd19 ct19), sl19⟩) (c19 : PySem.W.codeIn K cd19 "_law_draw" = true) (k19 : PySem.W.keepIn K (.ref f19) = true)
    (a20 : PySem.W.nsIn K mainGlobals "_law_is_row" = some (some (.ref f20))) (l20 : K.lookup f20 = some ⟨oc20, od20, .func (PySem.W.fnOf "_law_is_row" "_law_is_row" (defArgs s__law_is_row) (defBody s__law_is_row) (defScope s__law_is_row) .none kV20 dc20 pm20 an20 cd20 ct20), sl20⟩) (c20 : PySem.W.codeIn K cd20 "_law_is_row" = true) (k20 : PySem.W.keepIn K (.ref f20) = true)
    (a21 : PySem.W.nsIn K mainGlobals "_law_filled" = some (some (.ref f21))) (l21 : K.lookup f21 = some ⟨oc21, od21, .func (PySem.W.fnOf "_law_filled" "_law_filled" (defArgs s__law_filled) (defBody s__law_filled) (defScope s__law_filled) .none kV21 dc21 pm21 an21 cd21 ct21), sl21⟩) (c21 : PySem.W.codeIn K cd21 "_law_filled" = true) (k21 : PySem.W.keepIn K (.ref f21) = true)
    (a22 : PySem.W.nsIn K mainGlobals "_law_small_row" = some (some (.ref f22))) (l22 : K.lookup f22 = some ⟨oc22, od22, .func (PySem.W.fnOf "_law_small_row" "_law_small_row" (defArgs s__law_small_row) (defBody s__law_small_row) (defScope s__law_small_row) .none kV22 dc22 pm22 an22 cd22 ct22), sl22⟩) (c22 : PySem.W.codeIn K cd22 "_law_small_row" = true) (k22 : PySem.W.keepIn K (.ref f22) = true)
    (a23 : PySem.W.nsIn K mainGlobals "_law_word_of" = some (some (.ref f23))) (l23 : K.lookup f23 = some ⟨oc23, od23, .func (PySem.W.fnOf "_law_word_of" "_law_word_of" (defArgs s__law_word_of) (defBody s__law_word_of) (defScope s__law_word_of) .none kV23 dc23 pm23 an23 cd23 ct23), sl23⟩) (c23 : PySem.W.codeIn K cd23 "_law_word_of" = true) (k23 : PySem.W.keepIn K (.ref f23) = true)
    (a24 : PySem.W.nsIn K mainGlobals "_law_due" = some (some (.ref f24))) (l24 : K.lookup f24 = some ⟨oc24, od24, .func (PySem.W.fnOf "_law_due" "_law_due" (defArgs s__law_due) (defBody s__law_due) (defScope s__law_due) .none kV24 dc24 pm24 an24 cd24 ct24), sl24⟩) (c24 : PySem.W.codeIn K cd24 "_law_due" = true) (k24 : PySem.W.keepIn K (.ref f24) = true)
    (a25 : PySem.W.nsIn K mainGlobals "_law_told" = some (some (.ref f25))) (l25 : K.lookup f25 = some ⟨oc25, od25, .func (PySem.W.fnOf "_law_told" "_law_told" (defArgs s__law_told) (defBody s__law_told) (defScope s__law_told) .none kV25 dc25 pm25 an25 cd25 ct25), sl25⟩) (c25 : PySem.W.codeIn K cd25 "_law_told" = true) (k25 : PySem.W.keepIn K (.ref f25) = true)
    (a26 : PySem.W.nsIn K mainGlobals "_law_spoilt" = some (some (.ref f26))) (l26 : K.lookup f26 = some ⟨oc26, od26, .func (PySem.W.fnOf "_law_spoilt" "_law_spoilt" (defArgs s__law_spoilt) (defBody s__law_spoilt) (defScope s__law_spoilt) .none kV26 dc26 pm26 an26 cd26 ct26), sl26⟩) (c26 : PySem.W.codeIn K cd26 "_law_spoilt" = true) (k26 : PySem.W.keepIn K (.ref f26) = true)
    (a27 : PySem.W.nsIn K mainGlobals "law" = some (some (.ref f27))) (l27 : K.lookup f27 = some ⟨oc27, od27, .func (PySem.W.fnOf "law" "law" (defArgs s_law) (defBody s_law) (defScope s_law) .none kV27 dc27 pm27 an27 cd27 ct27), sl27⟩) (c27 : PySem.W.codeIn K cd27 "law" = true) (k27 : PySem.W.keepIn K (.ref f27) = true)
    (g1 : PySem.W.nsIn K mainGlobals "GREATEST" = some (some (.int 400 tk)))
    (gF : PySem.W.nsIn K mainGlobals "FIGURES" = some (some (.str fs tf))) (gFl : fs.cps.toList = [48, 49, 50, 51, 52, 53, 54, 55, 56, 57])
    (zn_str : PySem.W.nsIn K mainGlobals "str" = some none)
    (en0 : PySem.W.nsIn K mainGlobals "NoSize" = some (some (.ref ec0))) (ei0 : PySem.W.isClsIn K ec0 = true) (et0 : PySem.W.typeIn K (.ref ec0) = some (.type "type")) (en1 : PySem.W.nsIn K mainGlobals "NoSuch" = some (some (.ref ec1))) (ei1 : PySem.W.isClsIn K ec1 = true) (et1 : PySem.W.typeIn K (.ref ec1) = some (.type "type")) (en2 : PySem.W.nsIn K mainGlobals "NoRow" = some (some (.ref ec2))) (ei2 : PySem.W.isClsIn K ec2 = true) (et2 : PySem.W.typeIn K (.ref ec2) = some (.type "type")) (en3 : PySem.W.nsIn K mainGlobals "NoPerson" = some (some (.ref ec3))) (ei3 : PySem.W.isClsIn K ec3 = true) (et3 : PySem.W.typeIn K (.ref ec3) = some (.type "type")) (en4 : PySem.W.nsIn K mainGlobals "NoNote" = some (some (.ref ec4))) (ei4 : PySem.W.isClsIn K ec4 = true) (et4 : PySem.W.typeIn K (.ref ec4) = some (.type "type")) (enA : PySem.W.nsIn K mainGlobals "ApartError" = some (some (.ref ecA))) (eiA : PySem.W.isClsIn K ecA = true) (etA : PySem.W.typeIn K (.ref ecA) = some (.type "type")) (ebA : PySem.W.subIn K (.ref ecA) (.type "BaseException") = some true) (env : PySem.W.nsIn K mainGlobals "ValueError" = some none) (ex4 : PySem.W.excIn K ec4 bmV newV = true) (ega4 : PySem.W.findIn K (.ref ec4) "__getattribute__" = some (some (.builtin "BaseException.__getattribute__"))) (egg4 : PySem.W.findIn K (.ref ec4) "__getattr__" = some none) (ecl4 : PySem.W.findIn K (.ref ec4) "__class__" = some (some (.builtin "object.__class__"))) (emo4 : PySem.W.mroIn K ec4 (.type "object") = some true) (emb4 : PySem.W.mroIn K ec4 (.type "BaseException") = some true) (es4_0 : PySem.W.subIn K (.ref ec4) (.ref ec0) = some false) (es4_1 : PySem.W.subIn K (.ref ec4) (.ref ec1) = some false) (es4_2 : PySem.W.subIn K (.ref ec4) (.ref ec2) = some false) (es4_3 : PySem.W.subIn K (.ref ec4) (.ref ec3) = some false) (es4_4 : PySem.W.subIn K (.ref ec4) (.ref ec4) = some true) (es4_A : PySem.W.subIn K (.ref ec4) (.ref ecA) = some true) (es4_v : PySem.W.subIn K (.ref ec4) (.type "ValueError") = some true)
    (z0 : PySem.W.nsIn K mainGlobals "len" = some none)
    (z1 : PySem.W.nsIn K mainGlobals "range" = some none)
    (z2 : PySem.W.nsIn K mainGlobals "list" = some none)
    (z3 : PySem.W.nsIn K mainGlobals "all" = some none)
    (z4 : PySem.W.nsIn K mainGlobals "isinstance" = some none)
    (z5 : PySem.W.nsIn K mainGlobals "int" = some none)
    (z6 : PySem.W.nsIn K mainGlobals "bool" = some none)
    (z7 : PySem.W.nsIn K mainGlobals "tuple" = some none)
    (z8 : PySem.W.nsIn K mainGlobals "min" = some none)
    (z9 : PySem.W.nsIn K mainGlobals "max" = some none)
    (z10 : PySem.W.nsIn K mainGlobals "enumerate" = some none)
    (z11 : PySem.W.nsIn K mainGlobals "reversed" = some none) :
    ∃ fd : FuncData, (∀ (s : Shared) (v : Value), BindsTo s fd ⟨[v], []⟩ [("script", v)]) ∧ ∀ base : Heap, K.In base → base.Ns mainGlobals mg → FnOk l.prog w K mg base CX0 13 fa fd ["script"] (spLaw K) := by
  have e := hfa.symm.trans (PySem.W.mg_of X G a27)
  cases e
  have B : Bn mg := ⟨PySem.W.mg_none_of X G z0, PySem.W.mg_none_of X G z1, PySem.W.mg_none_of X G z2, PySem.W.mg_none_of X G z3, PySem.W.mg_none_of X G z4, PySem.W.mg_none_of X G z5, PySem.W.mg_none_of X G z6, PySem.W.mg_none_of X G z7, PySem.W.mg_none_of X G z8, PySem.W.mg_none_of X G z9, PySem.W.mg_none_of X G z10, PySem.W.mg_none_of X G z11⟩
  have F9 := fun_mk (st := s_found_places) l9 c9 k9
  have D_found_places : Def K mg "found_places" s_found_places ["row"] := ⟨f9, _, F9, PySem.W.mg_of X G a9, F9.binds (ps := ["row"]) fun _ _ _ _ _ _ us hl => match us, hl with | [_], _ => rfl⟩
  have F10 := fun_mk (st := s_stands_well) l10 c10 k10
  have D_stands_well : Def K mg "stands_well" s_stands_well ["number", "some"] := ⟨f10, _, F10, PySem.W.mg_of X G a10, F10.binds (ps := ["number", "some"]) fun _ _ _ _ _ _ us hl => match us, hl with | [_, _], _ => rfl⟩
  have F11 := fun_mk (st := s_is_row) l11 c11 k11
  have D_is_row : Def K mg "is_row" s_is_row ["row"] := ⟨f11, _, F11, PySem.W.mg_of X G a11, F11.binds (ps := ["row"]) fun _ _ _ _ _ _ us hl => match us, hl with | [_], _ => rfl⟩
  have F14 := fun_mk (st := s_writes_number) l14 c14 k14
  have D_writes_number : Def K mg "writes_number" s_writes_number ["part"] := ⟨f14, _, F14, PySem.W.mg_of X G a14, F14.binds (ps := ["part"]) fun _ _ _ _ _ _ us hl => match us, hl with | [_], _ => rfl⟩
  have F15 := fun_mk (st := s_numbers_of) l15 c15 k15
  have D_numbers_of : Def K mg "numbers_of" s_numbers_of ["text"] := ⟨f15, _, F15, PySem.W.mg_of X G a15, F15.binds (ps := ["text"]) fun _ _ _ _ _ _ us hl => match us, hl with | [_], _ => rfl⟩
  have F16 := fun_mk (st := s_read) l16 c16 k16
  have D_read : Def K mg "read" s_read ["text"] := ⟨f16, _, F16, PySem.W.mg_of X G a16, F16.binds (ps := ["text"]) fun _ _ _ _ _ _ us hl => match us, hl with | [_], _ => rfl⟩
  have F18 := fun_mk (st := s__law_cell_at) l18 c18 k18
  have D__law_cell_at : Def K mg "_law_cell_at" s__law_cell_at ["script", "k"] := ⟨f18, _, F18, PySem.W.mg_of X G a18, F18.binds (ps := ["script", "k"]) fun _ _ _ _ _ _ us hl => match us, hl with | [_, _], _ => rfl⟩
  have F19 := fun_mk (st := s__law_draw) l19 c19 k19
  have D__law_draw : Def K mg "_law_draw" s__law_draw ["cell", "k", "bound"] := ⟨f19, _, F19, PySem.W.mg_of X G a19, F19.binds (ps := ["cell", "k", "bound"]) fun _ _ _ _ _ _ us hl => match us, hl with | [_, _, _], _ => rfl⟩
  have F20 := fun_mk (st := s__law_is_row) l20 c20 k20
  have D__law_is_row : Def K mg "_law_is_row" s__law_is_row ["row"] := ⟨f20, _, F20, PySem.W.mg_of X G a20, F20.binds (ps := ["row"]) fun _ _ _ _ _ _ us hl => match us, hl with | [_], _ => rfl⟩
  have F21 := fun_mk (st := s__law_filled) l21 c21 k21
  have D__law_filled : Def K mg "_law_filled" s__law_filled ["row", "number", "cell"] := ⟨f21, _, F21, PySem.W.mg_of X G a21, F21.binds (ps := ["row", "number", "cell"]) fun _ _ _ _ _ _ us hl => match us, hl with | [_, _, _], _ => rfl⟩
  have F22 := fun_mk (st := s__law_small_row) l22 c22 k22
  have D__law_small_row : Def K mg "_law_small_row" s__law_small_row ["script", "first"] := ⟨f22, _, F22, PySem.W.mg_of X G a22, F22.binds (ps := ["script", "first"]) fun _ _ _ _ _ _ us hl => match us, hl with | [_, _], _ => rfl⟩
  have F23 := fun_mk (st := s__law_word_of) l23 c23 k23
  have D__law_word_of : Def K mg "_law_word_of" s__law_word_of ["e"] := ⟨f23, _, F23, PySem.W.mg_of X G a23, F23.binds (ps := ["e"]) fun _ _ _ _ _ _ us hl => match us, hl with | [_], _ => rfl⟩
  have F24 := fun_mk (st := s__law_due) l24 c24 k24
  have D__law_due : Def K mg "_law_due" s__law_due ["text"] := ⟨f24, _, F24, PySem.W.mg_of X G a24, F24.binds (ps := ["text"]) fun _ _ _ _ _ _ us hl => match us, hl with | [_], _ => rfl⟩
  have F25 := fun_mk (st := s__law_told) l25 c25 k25
  have D__law_told : Def K mg "_law_told" s__law_told ["text"] := ⟨f25, _, F25, PySem.W.mg_of X G a25, F25.binds (ps := ["text"]) fun _ _ _ _ _ _ us hl => match us, hl with | [_], _ => rfl⟩
  have F26 := fun_mk (st := s__law_spoilt) l26 c26 k26
  have D__law_spoilt : Def K mg "_law_spoilt" s__law_spoilt ["script", "text"] := ⟨f26, _, F26, PySem.W.mg_of X G a26, F26.binds (ps := ["script", "text"]) fun _ _ _ _ _ _ us hl => match us, hl with | [_, _], _ => rfl⟩
  have F27 := fun_mk (st := s_law) l27 c27 k27
  refine ⟨PySem.W.fnOf "law" "law" (defArgs s_law) (defBody s_law) (defScope s_law) .none kV27 dc27 pm27 an27 cd27 ct27, fun s v => .of_eq rfl, fun base _ _ => ?_⟩
  have hG := PySem.W.mg_of X G g1
  have hStr := PySem.W.mg_none_of X G zn_str
  have c_cell := ok_cell (P := l.prog) (w := w) (base := base) D__law_cell_at B
  have c_draw := ok_draw (P := l.prog) (w := w) (base := base) D__law_draw
  have c_found := ok_found (P := l.prog) (w := w) (base := base) D_found_places B
  have c_sw := ok_sw (P := l.prog) (w := w) (base := base) D_stands_well B
  have c_isRow := ok_isRow D_is_row B hG c_found c_sw
  have c_lir := ok_lir (P := l.prog) (w := w) (base := base) D__law_is_row B
  have c_filled := ok_filled D__law_filled B c_draw
  have c_small := ok_small D__law_small_row B c_cell c_filled
  have c_wn := ok_wn (P := l.prog) (w := w) (base := base) D_writes_number B hStr hG (PySem.W.mg_of X G gF) gFl
  have c_nums := ok_nums D_numbers_of B c_wn
  have c_readIs := ok_readIs D_read c_nums c_isRow
  have F5 : Five K mg ec0 ec1 ec2 ec3 ec4 := ⟨PySem.W.mg_of X G en0, PySem.W.mg_of X G en1, PySem.W.mg_of X G en2, PySem.W.mg_of X G en3, PySem.W.mg_of X G en4, PySem.W.mg_none_of X G env⟩
  have X4 : Err K mg "NoNote" ec4 := ⟨PySem.W.mg_of X G en4, ex4, ⟨ega4, egg4, ecl4, emo4, emb4, ei4⟩⟩
  have ne4_0 : (Value.ref ec4 == Value.ref ec0) = true → false = true := fun z => by have z := Value.ref.inj (beq_iff_eq.mp z); rw [← z, es4_4] at es4_0; cases es4_0
  have ne4_1 : (Value.ref ec4 == Value.ref ec1) = true → false = true := fun z => by have z := Value.ref.inj (beq_iff_eq.mp z); rw [← z, es4_4] at es4_1; cases es4_1
  have ne4_2 : (Value.ref ec4 == Value.ref ec2) = true → false = true := fun z => by have z := Value.ref.inj (beq_iff_eq.mp z); rw [← z, es4_4] at es4_2; cases es4_2
  have ne4_3 : (Value.ref ec4 == Value.ref ec3) = true → false = true := fun z => by have z := Value.ref.inj (beq_iff_eq.mp z); rw [← z, es4_4] at es4_3; cases es4_3
  have kd4 : Kind K ec0 ec1 ec2 ec3 ec4 ec4 4 := ⟨X4.xc, kit_of_sub ei0 et0 es4_0 ne4_0, kit_of_sub ei1 et1 es4_1 ne4_1, kit_of_sub ei2 et2 es4_2 ne4_2, kit_of_sub ei3 et3 es4_3 ne4_3, kit_of_sub ei4 et4 es4_4 (fun _ => rfl), kit_of_ty (by decide +kernel) es4_v⟩
  have hx4 := exm_of ebA eiA etA es4_A
  have c_numsE := CalE.or c_nums.e (ok_numsE D_numbers_of B X4 c_wn)
  have c_readE := CalE.or c_readIs.e (ok_readE D_read X4 c_numsE c_isRow)
  have c_word := ok_word (P := l.prog) (w := w) (base := base) D__law_word_of B F5
  have c_toldT := ok_toldT D__law_told (PySem.W.mg_of X G enA) hx4 kd4 c_readE c_word
  have c_dueT := ok_dueT D__law_due B c_lir
  have c_spoilT := ok_spoilT D__law_spoilt B c_cell
  exact ok_law F27 B hStr c_cell (c_small.mono (by decide)) (c_spoilT.mono (by decide)) (c_dueT.mono (by decide)) (c_toldT.mono (by decide))
theorem walk {l : PySem.W.OpenLaw} {q : Program} {loose : List Str} {XP : (Str → Option Value) → Heap → Prop} {YP : World → Heap → Prop} {d : DefRec} {K : Params → PySem.W.Frag} (hn : l.most = some 63) (hdf : d.params.defaults = [])
    (hY : ∀ (w : World) (h : Heap), YP w h → (K w.params).In h)
    (F : ∀ (w : World) (mg : Str → Option Value) (fa : Addr) (h : Heap), (K w.params).In h → h.Ns mainGlobals mg → mg d.name = some (.ref fa) →
      ∃ fd : FuncData, (∀ (s : Shared) (u : Value), BindsTo s fd ⟨[u], []⟩ [("script", u)]) ∧ ∀ base : Heap, (K w.params).In base → base.Ns mainGlobals mg → FnOk l.prog w (K w.params) mg base CX0 13 fa fd ["script"] (spLaw (K w.params))) :
    PySem.W.WalkO q loose XP YP l.row.toRowW d [] (fun f vs => PySem.call f vs) :=
  L2.walk_of (n := 63) (k := 13) (x := "script") (CX := fun _ => CX0) (sp := fun w => spLaw (K w.params)) hn (by decide) hdf ⟨rfl, by decide, by decide⟩ hY F (fun _ _ a ns hl _ hS => ⟨a, ns, rfl, hS, hl, fun _ => rfl⟩) fun _ _ _ _ _ z => z
end Law
open PySem PySem.W PyProof.Rows
set_option maxRecDepth 100000 in
set_option maxHeartbeats 0 in
theorem PySem.Challenge.cw_sameapart_k11_read_or_refused_holds : PySem.Challenge.rw_sameapart_k11_read_or_refused.Holds := by
  w_on; o_law; k_head; (case hw => w_witness2)
  k_fill
  refine Law.walk (l := PySem.Challenge.rw_sameapart_k11_read_or_refused) rfl rfl (fun w h Y => PySem.W.kIn_of Y) ?F
  case F =>
    intro w mg fa h KX G hmg
    refine' Law.all_mk KX G hmg ?a9 ?l9 ?c9 ?k9 ?a10 ?l10 ?c10 ?k10 ?a11 ?l11 ?c11 ?k11 ?a14 ?l14 ?c14 ?k14 ?a15 ?l15 ?c15 ?k15 ?a16 ?l16 ?c16 ?k16 ?a18 ?l18 ?c18 ?k18 ?a19 ?l19 ?c19 ?k19 ?a20 ?l20 ?c20 ?k20 ?a21 ?l21 ?c21 ?k21 ?a22 ?l22 ?c22 ?k22 ?a23 ?l23 ?c23 ?k23 ?a24 ?l24 ?c24 ?k24 ?a25 ?l25 ?c25 ?k25 ?a26 ?l26 ?c26 ?k26 ?a27 ?l27 ?c27 ?k27 ?g1 ?gF ?gFl ?zn_str ?en0 ?ei0 ?et0 ?en1 ?ei1 ?et1 ?en2 ?ei2 ?et2 ?en3 ?ei3 ?et3 ?en4 ?ei4 ?et4 ?enA ?eiA ?etA ?ebA ?env ?ex4 ?ega4 ?egg4 ?ecl4 ?emo4 ?emb4 ?es4_0 ?es4_1 ?es4_2 ?es4_3 ?es4_4 ?es4_A ?es4_v ?z0 ?z1 ?z2 ?z3 ?z4 ?z5 ?z6 ?z7 ?z8 ?z9 ?z10 ?z11
    (case a9 => k_is)
    (case l9 => k_is)
    (case c9 => k_is)
    (case k9 => k_is)
    (case a10 => k_is)
    (case l10 => k_is)
    (case c10 => k_is)
    (case k10 => k_is)
    (case a11 => k_is)
    (case l11 => k_is)
    (case c11 => k_is)
    (case k11 => k_is)
    (case a14 => k_is)
    (case l14 => k_is)
    (case c14 => k_is)
    (case k14 => k_is)
    (case a15 => k_is)
    (case l15 => k_is)
    (case c15 => k_is)
    (case k15 => k_is)
    (case a16 => k_is)
    (case l16 => k_is)
    (case c16 => k_is)
    (case k16 => k_is)
    (case a18 => k_is)
    (case l18 => k_is)
    (case c18 => k_is)
    (case k18 => k_is)
    (case a19 => k_is)
    (case l19 => k_is)
    (case c19 => k_is)
    (case k19 => k_is)
    (case a20 => k_is)
    (case l20 => k_is)
    (case c20 => k_is)
    (case k20 => k_is)
    (case a21 => k_is)
    (case l21 => k_is)
    (case c21 => k_is)
    (case k21 => k_is)
    (case a22 => k_is)
    (case l22 => k_is)
    (case c22 => k_is)
    (case k22 => k_is)
    (case a23 => k_is)
    (case l23 => k_is)
    (case c23 => k_is)
    (case k23 => k_is)
    (case a24 => k_is)
    (case l24 => k_is)
    (case c24 => k_is)
    (case k24 => k_is)
    (case a25 => k_is)
    (case l25 => k_is)
    (case c25 => k_is)
    (case k25 => k_is)
    (case a26 => k_is)
    (case l26 => k_is)
    (case c26 => k_is)
    (case k26 => k_is)
    (case a27 => k_is)
    (case l27 => k_is)
    (case c27 => k_is)
    (case k27 => k_is)
    (case g1 => k_is)
    (case gF => k_is)
    (case gFl => rfl)
    (case zn_str => k_is)
    (case en0 => k_is)
    (case ei0 => k_is)
    (case et0 => k_is)
    (case en1 => k_is)
    (case ei1 => k_is)
    (case et1 => k_is)
    (case en2 => k_is)
    (case ei2 => k_is)
    (case et2 => k_is)
    (case en3 => k_is)
    (case ei3 => k_is)
    (case et3 => k_is)
    (case en4 => k_is)
    (case ei4 => k_is)
    (case et4 => k_is)
    (case enA => k_is)
    (case eiA => k_is)
    (case etA => k_is)
    (case ebA => k_is)
    (case env => k_is)
    (case ex4 => k_exc)
    (case ega4 => k_is)
    (case egg4 => k_is)
    (case ecl4 => k_is)
    (case emo4 => k_is)
    (case emb4 => k_is)
    (case es4_0 => k_is)
    (case es4_1 => k_is)
    (case es4_2 => k_is)
    (case es4_3 => k_is)
    (case es4_4 => k_is)
    (case es4_A => k_is)
    (case es4_v => k_is)
    (case z0 => k_is)
    (case z1 => k_is)
    (case z2 => k_is)
    (case z3 => k_is)
    (case z4 => k_is)
    (case z5 => k_is)
    (case z6 => k_is)
    (case z7 => k_is)
    (case z8 => k_is)
    (case z9 => k_is)
    (case z10 => k_is)
    (case z11 => k_is)