import PyProof.Rows.All
import Wide.All
import OpenK.AllK
import Wide.FinOn
import HandS.ForMost
import HandS.ForExc
import HandS.Walk
import HandS.Defaults
import HandS.Wide
import HandS.WideBits
import HandS.Conv
import HandS.TupAny
import HandS.TupMul
import HandS.Text
import HandS.Dict
import HandS.IsInst
import HandS.Deep
import HandS.Flow
import HandS.TupLe
import HandS.Comp
import KE.GoesEnumKw
import HandS.More
import HandS.Small
import HandS.EndBits
import KE.BitLaws
import HandS.TryOnly
import HandS.ExcValue
import HandS.ExcField
import KE.KExcIs
import HandS.ExcInit
import HandS.DictComp
import PyProof.ReprLen
import PyProof.FitsInt
import PySem.Challenge.RW_letterbench_k24_rows_run
set_option Elab.async false
set_option linter.all false
set_option maxRecDepth 100000
section
/-! Mi, first part: values as data, cells that change, how both lie in the abstract heap. -/
namespace Mi
open PySem PySem.Spec PyProof.Rows L2

inductive D where
  | non
  | bl (b : Bool)
  | int (i : Int)
  | str (x : Str)
  | ty (n : String)
  | adr (a : Addr)
  | ref (l : Nat)
  | tup (ds : List D)
  | lst (ds : List D)
  | dct (ks : List Key) (ds : List D)
  /-- a def of the text, by its name -/
  | fn (n : Str)
  /-- an exception that was caught: its class's name; its own fields, if it has a dict -/
  | exo (c : Str) (hd : Bool) (ks : List Str) (ds : List D)

/-- the class of this name, of the text or built in -/
def CN (K : PySem.W.Frag) (c : Str) (cv : Value) : Prop := PySem.W.nsIn K mainGlobals c = some (some cv) ∨ (PySem.W.nsIn K mainGlobals c = some none ∧ bootBuiltins c = some cv)
theorem CN.uniq {K : PySem.W.Frag} {c : Str} {u v : Value} (h : CN K c u) (g : CN K c v) : u = v := by
  rcases h with h | ⟨h, h2⟩ <;> rcases g with g | ⟨g, g2⟩
  · rw [h] at g; exact Option.some.inj (Option.some.inj g)
  · rw [h] at g; cases g
  · rw [h] at g; cases g
  · rw [h2] at g2; exact Option.some.inj g2
/-- at a: an exception of the class cv, its dict at d -/
def ExV (cv : Value) (d : Option Addr) (a : Addr) : HO := .ext fun h => ∃ (oe : Obj) (vs : Array Value), h.get? a = some oe ∧ Zc cv d oe ∧ oe.data = .fields vs

/-- a cell: a list, a dict, an instance that may change; gone: told away as a plain value -/
inductive MO where
  | lst (ds : List D)
  | dct (kvs : List (Key × D))
  | ins (C : Str) (fs : List (Str × D))
  | gone
abbrev MH := List MO
/-- where the cells lie; c: by number; h: lists that are being made out of sight -/
structure Rho where
  c : List (Option Addr)
  h : List Addr

/-- a list read, not a cell's -/
def LsV (K : PySem.W.Frag) (ρ : Rho) (H : Hp) (a : Addr) (xs : List V) : Prop := (Rd H a (.lst xs) ∧ some a ∉ ρ.c ∧ a ∉ ρ.h) ∨ SqL K (fun _ => none) a xs
mutual
def Den (K : PySem.W.Frag) (ρ : Rho) (H : Hp) : D → V → Prop
  | .non, v => v = .non
  | .bl b, v => v = .bl b
  | .int i, v => v = .int i
  | .str x, v => v = .str x
  | .ty n, v => v = .ty n
  | .adr a, v => v = .ref a
  | .ref l, v => ∃ a o, v = .ref a ∧ ρ.c[l]? = some o ∧ ∀ b, o = some b → b = a
  | .tup ds, v => ∃ a xs, v = .ref a ∧ SqT K H a xs ∧ Dens K ρ H ds xs
  | .lst ds, v => ∃ a xs, v = .ref a ∧ LsV K ρ H a xs ∧ Dens K ρ H ds xs
  | .dct ks ds, v => ∃ a kvs, v = .ref a ∧ Rd H a (.dK kvs) ∧ some a ∉ ρ.c ∧ kvs.map (·.1) = ks ∧ Dens K ρ H ds (kvs.map (·.2))
  | .fn n, v => ∃ a, PySem.W.nsIn K mainGlobals n = some (some (.ref a)) ∧ v = .ref a
  | .exo c hd ks ds, v => ∃ a cv d, v = .ref a ∧ CN K c cv ∧ H a = some (ExV cv d a) ∧ (hd = false ∧ d = none ∨ hd = true ∧ ∃ dd gs, d = some dd ∧ H dd = some (.xd gs) ∧ gs.map (·.1) = ks ∧ Dens K ρ H ds (gs.map (·.2)))
def Dens (K : PySem.W.Frag) (ρ : Rho) (H : Hp) : List D → List V → Prop
  | [], vs => vs = []
  | d :: ds, vs => ∃ v r, vs = v :: r ∧ Den K ρ H d v ∧ Dens K ρ H ds r
end

def DenP {κ : Type} (K : PySem.W.Frag) (ρ : Rho) (H : Hp) : List (κ × D) → List (κ × V) → Prop := Paired fun p q => p.1 = q.1 ∧ Den K ρ H p.2 q.2

def ObjD (K : PySem.W.Frag) (ρ : Rho) (H : Hp) (l : Nat) : MO → Prop
  | .lst ds => ∃ a xs, ρ.c[l]? = some (some a) ∧ H a = some (.lst xs) ∧ Dens K ρ H ds xs
  | .dct kvs => ∃ a ks, ρ.c[l]? = some (some a) ∧ H a = some (.dK ks) ∧ DenP K ρ H kvs ks
  | .ins C fs => ∃ a Ca dx gs, ρ.c[l]? = some (some a) ∧ CN K C (.ref Ca) ∧ H a = some (.ins Ca dx gs) ∧ DenP K ρ H fs gs
  | .gone => ρ.c[l]? = some none

structure Rel (K : PySem.W.Frag) (ρ : Rho) (M : MH) (H : Hp) : Prop where
  len : ρ.c.length = M.length
  hid : ∀ a ∈ ρ.h, some a ∉ ρ.c ∧ ∃ xs, H a = some (.lst xs)
  inj : ∀ (i j : Nat) (a : Addr), ρ.c[i]? = some (some a) → ρ.c[j]? = some (some a) → i = j
  obj : ∀ (l : Nat) (o : MO), M[l]? = some o → ObjD K ρ H l o

/-- what may become of the heap: cells change, cells are told away, new ones come -/
structure Stp (ρ : Rho) (H : Hp) (ρ' : Rho) (H' : Hp) : Prop where
  pre : ∀ (l : Nat) (o : Option Addr), ρ.c[l]? = some o → ρ'.c[l]? = some o ∨ ρ'.c[l]? = some none
  new : ∀ a : Addr, some a ∈ ρ'.c → some a ∈ ρ.c ∨ H a = none
  keep : ∀ (a : Addr) (o : HO), H a = some o → some a ∉ ρ.c → H' a = some o
  hid : ρ'.h = ρ.h

theorem mem_of_get {ρ : Rho} {l : Nat} {a : Addr} (h : ρ.c[l]? = some (some a)) : some a ∈ ρ.c := List.mem_of_getElem? h
theorem Rel.kind {K : PySem.W.Frag} {ρ : Rho} {M : MH} {H : Hp} (R : Rel K ρ M H) {a : Addr} (h : some a ∈ ρ.c) : (∃ xs, H a = some (.lst xs)) ∨ (∃ ks, H a = some (.dK ks)) ∨ ∃ C dx gs, H a = some (.ins C dx gs) := by
  obtain ⟨l, hl⟩ := List.getElem?_of_mem h
  have hm : l < M.length := by
    rw [← R.len]
    exact (List.getElem?_eq_some_iff.mp hl).1
  have q := R.obj l M[l] (List.getElem?_eq_getElem hm)
  cases e : M[l] with
  | lst ds =>
    rw [e] at q
    obtain ⟨b, xs, h1, h2, _⟩ := q
    rw [hl] at h1; cases h1
    exact .inl ⟨xs, h2⟩
  | dct kvs =>
    rw [e] at q
    obtain ⟨b, xs, h1, h2, _⟩ := q
    rw [hl] at h1; cases h1
    exact .inr (.inl ⟨xs, h2⟩)
  | ins C fs =>
    rw [e] at q
    obtain ⟨b, Ca, dx, gs, h1, _, h2, _⟩ := q
    rw [hl] at h1; cases h1
    exact .inr (.inr ⟨Ca, dx, gs, h2⟩)
  | gone =>
    rw [e] at q
    have q' : ρ.c[l]? = some none := q
    rw [hl] at q'; cases q'
theorem Rel.freshH {K : PySem.W.Frag} {ρ : Rho} {M : MH} {H : Hp} (R : Rel K ρ M H) {p : Addr} (hp : H p = none) : p ∉ ρ.h := fun m => by
  obtain ⟨_, xs, e⟩ := R.hid p m
  rw [hp] at e; cases e
theorem Rel.notTup {K : PySem.W.Frag} {ρ : Rho} {M : MH} {H : Hp} (R : Rel K ρ M H) {a : Addr} {xs : List V} (h : H a = some (.tup xs)) : some a ∉ ρ.c := fun m => by
  rcases R.kind m with ⟨_, e⟩ | ⟨_, e⟩ | ⟨_, _, _, e⟩ <;> (rw [h] at e; cases e)
theorem Rel.notFrz {K : PySem.W.Frag} {ρ : Rho} {M : MH} {H : Hp} (R : Rel K ρ M H) {a : Addr} {o : Obj} {u : HO} (h : H a = some (.frz o u)) : some a ∉ ρ.c := fun m => by
  rcases R.kind m with ⟨_, e⟩ | ⟨_, e⟩ | ⟨_, _, _, e⟩ <;> (rw [h] at e; cases e)
theorem Rel.notExt {K : PySem.W.Frag} {ρ : Rho} {M : MH} {H : Hp} (R : Rel K ρ M H) {a : Addr} {φ : Heap → Prop} (h : H a = some (.ext φ)) : some a ∉ ρ.c := fun m => by
  rcases R.kind m with ⟨_, e⟩ | ⟨_, e⟩ | ⟨_, _, _, e⟩ <;> (rw [h] at e; cases e)
theorem Rel.notXd {K : PySem.W.Frag} {ρ : Rho} {M : MH} {H : Hp} (R : Rel K ρ M H) {a : Addr} {gs : List (Str × V)} (h : H a = some (.xd gs)) : some a ∉ ρ.c := fun m => by
  rcases R.kind m with ⟨_, e⟩ | ⟨_, e⟩ | ⟨_, _, _, e⟩ <;> (rw [h] at e; cases e)
theorem Stp.refl {K : PySem.W.Frag} {ρ : Rho} {M : MH} {H : Hp} : Stp ρ H ρ H := ⟨fun _ _ h => .inl h, fun _ h => .inl h, fun _ _ h _ => h, rfl⟩
theorem Stp.notin {ρ ρ' : Rho} {H H' : Hp} (S : Stp ρ H ρ' H') {a : Addr} {o : HO} (h : H a = some o) (n : some a ∉ ρ.c) : some a ∉ ρ'.c := fun m => by
  rcases S.new a m with z | z
  · exact n z
  · rw [h] at z; cases z
theorem Stp.trans {ρ ρ1 ρ2 : Rho} {H H1 H2 : Hp} (a : Stp ρ H ρ1 H1) (b : Stp ρ1 H1 ρ2 H2) : Stp ρ H ρ2 H2 where
  pre := fun l o h => by
    rcases a.pre l o h with q | q
    · exact b.pre l o q
    · rcases b.pre l none q with z | z <;> exact .inr z
  new := fun x m => by
    rcases b.new x m with q | q
    · exact a.new x q
    · cases e : H x with
      | none => exact .inr rfl
      | some o =>
        by_cases hx : some x ∈ ρ.c
        · exact .inl hx
        · rw [a.keep x o e hx] at q; cases q
  keep := fun x o h n => b.keep x o (a.keep x o h n) (a.notin h n)
  hid := b.hid.trans a.hid

section
variable {K : PySem.W.Frag} {ρ ρ' : Rho} {M M' : MH} {H H' : Hp}
theorem SqT.step (R : Rel K ρ M H) (S : Stp ρ H ρ' H') {a : Addr} {xs : List V} (h : SqT K H a xs) : SqT K H' a xs := by
  rcases h with (h | ⟨o, h⟩) | h
  · exact .inl (.inl (S.keep a _ h (R.notTup h)))
  · exact .inl (.inr ⟨o, S.keep a _ h (R.notFrz h)⟩)
  · exact .inr h
theorem LsV.step (S : Stp ρ H ρ' H') {a : Addr} {xs : List V} (h : LsV K ρ H a xs) : LsV K ρ' H' a xs := by
  rcases h with ⟨h | ⟨o, h⟩, n, n2⟩ | h
  · exact .inl ⟨.inl (S.keep a _ h n), S.notin h n, by rw [S.hid]; exact n2⟩
  · exact .inl ⟨.inr ⟨o, S.keep a _ h n⟩, S.notin h n, by rw [S.hid]; exact n2⟩
  · exact .inr h
theorem LsV.sq {a : Addr} {xs : List V} (h : LsV K ρ H a xs) : SqL K H a xs := by
  rcases h with ⟨h, _⟩ | h
  · exact .inl h
  · rcases h with (h | ⟨o, h⟩) | h
    · cases h
    · cases h
    · exact .inr h
mutual
theorem Den.step (R : Rel K ρ M H) (S : Stp ρ H ρ' H') : ∀ (d : D) (v : V), Den K ρ H d v → Den K ρ' H' d v
  | .non, v, h => by unfold Den at h ⊢; exact h
  | .bl b, v, h => by unfold Den at h ⊢; exact h
  | .int i, v, h => by unfold Den at h ⊢; exact h
  | .str x, v, h => by unfold Den at h ⊢; exact h
  | .ty n, v, h => by unfold Den at h ⊢; exact h
  | .adr a, v, h => by unfold Den at h ⊢; exact h
  | .ref l, v, h => by
    unfold Den at h ⊢
    obtain ⟨a, o, e, h1, h2⟩ := h
    rcases S.pre l o h1 with q | q
    · exact ⟨a, o, e, q, h2⟩
    · exact ⟨a, none, e, q, fun _ z => nomatch z⟩
  | .tup ds, v, h => by
    unfold Den at h ⊢
    obtain ⟨a, xs, e, h1, h2⟩ := h
    exact ⟨a, xs, e, SqT.step R S h1, Dens.step R S ds xs h2⟩
  | .lst ds, v, h => by
    unfold Den at h ⊢
    obtain ⟨a, xs, e, h1, h2⟩ := h
    exact ⟨a, xs, e, h1.step S, Dens.step R S ds xs h2⟩
  | .dct ks ds, v, h => by
    unfold Den at h ⊢
    obtain ⟨a, kvs, e, h1, n, h2, h3⟩ := h
    rcases h1 with h1 | ⟨o, h1⟩
    · exact ⟨a, kvs, e, .inl (S.keep a _ h1 n), S.notin h1 n, h2, Dens.step R S ds _ h3⟩
    · exact ⟨a, kvs, e, .inr ⟨o, S.keep a _ h1 n⟩, S.notin h1 n, h2, Dens.step R S ds _ h3⟩
  | .fn n, v, h => by unfold Den at h ⊢; exact h
  | .exo c hd ks ds, v, h => by
    unfold Den at h ⊢
    obtain ⟨a, cv, d, e, cn, h1, h2⟩ := h
    refine ⟨a, cv, d, e, cn, S.keep a _ h1 (R.notExt h1), ?_⟩
    rcases h2 with h2 | ⟨z, dd, gs, e2, h3, h4, h5⟩
    · exact .inl h2
    · exact .inr ⟨z, dd, gs, e2, S.keep dd _ h3 (R.notXd h3), h4, Dens.step R S ds _ h5⟩
theorem Dens.step (R : Rel K ρ M H) (S : Stp ρ H ρ' H') : ∀ (ds : List D) (vs : List V), Dens K ρ H ds vs → Dens K ρ' H' ds vs
  | [], vs, h => by unfold Dens at h ⊢; exact h
  | d :: ds, vs, h => by
    unfold Dens at h ⊢
    obtain ⟨v, r, e, h1, h2⟩ := h
    exact ⟨v, r, e, Den.step R S d v h1, Dens.step R S ds r h2⟩
end
theorem DenP.step {κ : Type} (R : Rel K ρ M H) (S : Stp ρ H ρ' H') {ps : List (κ × D)} {qs : List (κ × V)} (h : DenP K ρ H ps qs) : DenP K ρ' H' ps qs := Paired.mapP h fun p q z => ⟨z.1, Den.step R S _ _ z.2⟩

theorem Rel.fresh (R : Rel K ρ M H) {p : Addr} (hp : H p = none) : some p ∉ ρ.c := fun m => by
  rcases R.kind m with ⟨_, e⟩ | ⟨_, e⟩ | ⟨_, _, _, e⟩ <;> (rw [hp] at e; cases e)
/-- what keeps every value -/
structure Tr (ρ : Rho) (H : Hp) (ρ' : Rho) (H' : Hp) : Prop where
  pre : ∀ (l : Nat) (o : Option Addr), ρ.c[l]? = some o → ρ'.c[l]? = some o ∨ ρ'.c[l]? = some none
  lst : ∀ (a : Addr) (xs : List V), Rd H a (.lst xs) → some a ∉ ρ.c → a ∉ ρ.h → Rd H' a (.lst xs) ∧ some a ∉ ρ'.c ∧ a ∉ ρ'.h
  tup : ∀ (a : Addr) (xs : List V), Rd H a (.tup xs) → Rd H' a (.tup xs)
  dct : ∀ (a : Addr) (kvs : List (Key × V)), Rd H a (.dK kvs) → some a ∉ ρ.c → Rd H' a (.dK kvs) ∧ some a ∉ ρ'.c
  ext : ∀ (a : Addr) (φ : Heap → Prop), H a = some (.ext φ) → H' a = some (.ext φ)
  xd : ∀ (a : Addr) (gs : List (Str × V)), H a = some (.xd gs) → H' a = some (.xd gs)
theorem Tr.refl : Tr ρ H ρ H := ⟨fun _ _ h => .inl h, fun _ _ h n m => ⟨h, n, m⟩, fun _ _ h => h, fun _ _ h n => ⟨h, n⟩, fun _ _ h => h, fun _ _ h => h⟩
theorem Tr.trans {ρ1 ρ2 : Rho} {H1 H2 : Hp} (a : Tr ρ H ρ1 H1) (b : Tr ρ1 H1 ρ2 H2) : Tr ρ H ρ2 H2 where
  pre := fun l o h => by
    rcases a.pre l o h with q | q
    · exact b.pre l o q
    · rcases b.pre l none q with z | z <;> exact .inr z
  lst := fun x xs h n m => let ⟨h1, n1, m1⟩ := a.lst x xs h n m; b.lst x xs h1 n1 m1
  tup := fun x xs h => b.tup x xs (a.tup x xs h)
  dct := fun x ks h n => let ⟨h1, n1⟩ := a.dct x ks h n; b.dct x ks h1 n1
  ext := fun x φ h => b.ext x φ (a.ext x φ h)
  xd := fun x gs h => b.xd x gs (a.xd x gs h)
theorem Stp.tr (R : Rel K ρ M H) (S : Stp ρ H ρ' H') : Tr ρ H ρ' H' where
  pre := S.pre
  lst := fun a xs h n m => by
    rcases h with h | ⟨o, h⟩
    · exact ⟨.inl (S.keep a _ h n), S.notin h n, by rw [S.hid]; exact m⟩
    · exact ⟨.inr ⟨o, S.keep a _ h n⟩, S.notin h n, by rw [S.hid]; exact m⟩
  tup := fun a xs h => by
    rcases h with h | ⟨o, h⟩
    · exact .inl (S.keep a _ h (R.notTup h))
    · exact .inr ⟨o, S.keep a _ h (R.notFrz h)⟩
  dct := fun a ks h n => by
    rcases h with h | ⟨o, h⟩
    · exact ⟨.inl (S.keep a _ h n), S.notin h n⟩
    · exact ⟨.inr ⟨o, S.keep a _ h n⟩, S.notin h n⟩
  ext := fun a φ h => S.keep a _ h (R.notExt h)
  xd := fun a gs h => S.keep a _ h (R.notXd h)
theorem SqT.tr (T : Tr ρ H ρ' H') {a : Addr} {xs : List V} (h : SqT K H a xs) : SqT K H' a xs := by
  rcases h with h | h
  · exact .inl (T.tup a xs h)
  · exact .inr h
theorem LsV.tr (T : Tr ρ H ρ' H') {a : Addr} {xs : List V} (h : LsV K ρ H a xs) : LsV K ρ' H' a xs := by
  rcases h with ⟨h, n, m⟩ | h
  · exact .inl (T.lst a xs h n m)
  · exact .inr h
mutual
theorem Den.tr (T : Tr ρ H ρ' H') : ∀ (d : D) (v : V), Den K ρ H d v → Den K ρ' H' d v
  | .non, v, h => by unfold Den at h ⊢; exact h
  | .bl b, v, h => by unfold Den at h ⊢; exact h
  | .int i, v, h => by unfold Den at h ⊢; exact h
  | .str x, v, h => by unfold Den at h ⊢; exact h
  | .ty n, v, h => by unfold Den at h ⊢; exact h
  | .adr a, v, h => by unfold Den at h ⊢; exact h
  | .ref l, v, h => by
    unfold Den at h ⊢
    obtain ⟨a, o, e, h1, h2⟩ := h
    rcases T.pre l o h1 with q | q
    · exact ⟨a, o, e, q, h2⟩
    · exact ⟨a, none, e, q, fun _ z => nomatch z⟩
  | .tup ds, v, h => by
    unfold Den at h ⊢
    obtain ⟨a, xs, e, h1, h2⟩ := h
    exact ⟨a, xs, e, SqT.tr T h1, Dens.tr T ds xs h2⟩
  | .lst ds, v, h => by
    unfold Den at h ⊢
    obtain ⟨a, xs, e, h1, h2⟩ := h
    exact ⟨a, xs, e, h1.tr T, Dens.tr T ds xs h2⟩
  | .dct ks ds, v, h => by
    unfold Den at h ⊢
    obtain ⟨a, kvs, e, h1, n, h2, h3⟩ := h
    obtain ⟨q1, q2⟩ := T.dct a kvs h1 n
    exact ⟨a, kvs, e, q1, q2, h2, Dens.tr T ds _ h3⟩
  | .fn n, v, h => by unfold Den at h ⊢; exact h
  | .exo c hd ks ds, v, h => by
    unfold Den at h ⊢
    obtain ⟨a, cv, d, e, cn, h1, h2⟩ := h
    refine ⟨a, cv, d, e, cn, T.ext a _ h1, ?_⟩
    rcases h2 with h2 | ⟨z, dd, gs, e2, h3, h4, h5⟩
    · exact .inl h2
    · exact .inr ⟨z, dd, gs, e2, T.xd dd _ h3, h4, Dens.tr T ds _ h5⟩
theorem Dens.tr (T : Tr ρ H ρ' H') : ∀ (ds : List D) (vs : List V), Dens K ρ H ds vs → Dens K ρ' H' ds vs
  | [], vs, h => by unfold Dens at h ⊢; exact h
  | d :: ds, vs, h => by
    unfold Dens at h ⊢
    obtain ⟨v, r, e, h1, h2⟩ := h
    exact ⟨v, r, e, Den.tr T d v h1, Dens.tr T ds r h2⟩
end
theorem DenP.tr {κ : Type} (T : Tr ρ H ρ' H') {ps : List (κ × D)} {qs : List (κ × V)} (h : DenP K ρ H ps qs) : DenP K ρ' H' ps qs := Paired.mapP h fun p q z => ⟨z.1, Den.tr T _ _ z.2⟩
theorem ObjD.tr (T : Tr ρ H ρ' H') (e : ρ'.c = ρ.c) (k : ∀ a o, some a ∈ ρ.c → H a = some o → H' a = some o) {l : Nat} {o : MO} (q : ObjD K ρ H l o) : ObjD K ρ' H' l o := by
  cases o with
  | lst ds =>
    obtain ⟨a, xs, h1, h2, h3⟩ := q
    exact ⟨a, xs, by rw [e]; exact h1, k a _ (mem_of_get h1) h2, Dens.tr T _ _ h3⟩
  | dct kvs =>
    obtain ⟨a, xs, h1, h2, h3⟩ := q
    exact ⟨a, xs, by rw [e]; exact h1, k a _ (mem_of_get h1) h2, DenP.tr T h3⟩
  | ins C fs =>
    obtain ⟨a, Ca, dx, gs, h1, cn, h2, h3⟩ := q
    exact ⟨a, Ca, dx, gs, by rw [e]; exact h1, cn, k a _ (mem_of_get h1) h2, DenP.tr T h3⟩
  | gone =>
    show ρ'.c[l]? = some none
    rw [e]
    exact q
/-- the same cells, other things out of sight -/
theorem Rel.tr (R : Rel K ρ M H) (T : Tr ρ H ρ' H') (e : ρ'.c = ρ.c) (k : ∀ a o, some a ∈ ρ.c → H a = some o → H' a = some o) (hid : ∀ a ∈ ρ'.h, some a ∉ ρ'.c ∧ ∃ xs, H' a = some (.lst xs)) : Rel K ρ' M H' where
  len := by rw [e]; exact R.len
  hid := hid
  inj := by rw [e]; exact R.inj
  obj := fun l o q => (R.obj l o q).tr T e k

/-! ### out of sight -/
def Rho.hide (ρ : Rho) (p : Addr) : Rho := ⟨ρ.c, p :: ρ.h⟩
theorem Tr.hide {p : Addr} {o : HO} (hp : H p = none) : Tr ρ H (ρ.hide p) (upd H p o) where
  pre := fun _ _ h => .inl h
  lst := fun a xs h n m => by
    have ne : a ≠ p := by
      rcases h with h | ⟨u, h⟩ <;> exact ne_of_none h hp
    refine ⟨?_, n, fun z => ?_⟩
    · rcases h with h | ⟨u, h⟩
      · exact .inl (by rw [upd_ne ne]; exact h)
      · exact .inr ⟨u, by rw [upd_ne ne]; exact h⟩
    · rcases List.mem_cons.mp z with z | z
      · exact ne z
      · exact m z
  tup := fun a xs h => by
    rcases h with h | ⟨u, h⟩
    · exact .inl (by rw [upd_ne (ne_of_none h hp)]; exact h)
    · exact .inr ⟨u, by rw [upd_ne (ne_of_none h hp)]; exact h⟩
  dct := fun a ks h n => by
    rcases h with h | ⟨u, h⟩
    · exact ⟨.inl (by rw [upd_ne (ne_of_none h hp)]; exact h), n⟩
    · exact ⟨.inr ⟨u, by rw [upd_ne (ne_of_none h hp)]; exact h⟩, n⟩
  ext := fun a φ h => by rw [upd_ne (ne_of_none h hp)]; exact h
  xd := fun a φ h => by rw [upd_ne (ne_of_none h hp)]; exact h
theorem Rel.hide (R : Rel K ρ M H) {p : Addr} {xs : List V} (hp : H p = none) : Rel K (ρ.hide p) M (upd H p (.lst xs)) :=
  R.tr (Tr.hide hp) rfl (fun a o _ h => by rw [upd_ne (ne_of_none h hp)]; exact h) fun a m => by
    rcases List.mem_cons.mp m with e | m
    · subst e
      exact ⟨R.fresh hp, xs, upd_same⟩
    · obtain ⟨n, ys, h⟩ := R.hid a m
      exact ⟨n, ys, by rw [upd_ne (ne_of_none h hp)]; exact h⟩
theorem Tr.hidden {p : Addr} {xs : List V} {o : HO} (m : p ∈ ρ.h) (hp : H p = some (.lst xs)) : Tr ρ H ρ (upd H p o) where
  pre := fun _ _ h => .inl h
  lst := fun a ys h n k => by
    have ne : a ≠ p := fun e => k (e ▸ m)
    refine ⟨?_, n, k⟩
    rcases h with h | ⟨u, h⟩
    · exact .inl (by rw [upd_ne ne]; exact h)
    · exact .inr ⟨u, by rw [upd_ne ne]; exact h⟩
  tup := fun a ys h => by
    rcases h with h | ⟨u, h⟩
    · exact .inl (by rw [upd_ne (ne_of h hp fun z => nomatch z)]; exact h)
    · exact .inr ⟨u, by rw [upd_ne (ne_of h hp fun z => nomatch z)]; exact h⟩
  dct := fun a ks h n => by
    rcases h with h | ⟨u, h⟩
    · exact ⟨.inl (by rw [upd_ne (ne_of h hp fun z => nomatch z)]; exact h), n⟩
    · exact ⟨.inr ⟨u, by rw [upd_ne (ne_of h hp fun z => nomatch z)]; exact h⟩, n⟩
  ext := fun a φ h => by rw [upd_ne (ne_of h hp fun z => nomatch z)]; exact h
  xd := fun a φ h => by rw [upd_ne (ne_of h hp fun z => nomatch z)]; exact h
theorem Rel.hidden (R : Rel K ρ M H) {p : Addr} {xs ys : List V} (m : p ∈ ρ.h) (hp : H p = some (.lst xs)) : Rel K ρ M (upd H p (.lst ys)) :=
  R.tr (Tr.hidden m hp) rfl (fun a o q h => by
    have ne : a ≠ p := fun e => (R.hid p m).1 (by rw [← e]; exact q)
    rw [upd_ne ne]
    exact h) fun a k => by
    obtain ⟨n, zs, h⟩ := R.hid a k
    by_cases e : a = p
    · subst e
      exact ⟨n, ys, upd_same⟩
    · exact ⟨n, zs, by rw [upd_ne e]; exact h⟩
theorem Tr.unhide {p : Addr} : Tr (ρ.hide p) H ρ H := ⟨fun _ _ h => .inl h, fun _ _ h n m => ⟨h, n, fun z => m (List.mem_cons_of_mem _ z)⟩, fun _ _ h => h, fun _ _ h n => ⟨h, n⟩, fun _ _ h => h, fun _ _ h => h⟩
theorem Rel.unhide {p : Addr} (R : Rel K (ρ.hide p) M H) : Rel K ρ M H := R.tr Tr.unhide rfl (fun _ _ _ h => h) fun a m => R.hid a (List.mem_cons_of_mem _ m)

/-! ### reading Den -/
theorem den_non {v : V} : Den K ρ H .non v ↔ v = .non := by unfold Den; exact Iff.rfl
theorem den_bl {b : Bool} {v : V} : Den K ρ H (.bl b) v ↔ v = .bl b := by unfold Den; exact Iff.rfl
theorem den_int {i : Int} {v : V} : Den K ρ H (.int i) v ↔ v = .int i := by unfold Den; exact Iff.rfl
theorem den_str {x : Str} {v : V} : Den K ρ H (.str x) v ↔ v = .str x := by unfold Den; exact Iff.rfl
theorem den_ty {n : String} {v : V} : Den K ρ H (.ty n) v ↔ v = .ty n := by unfold Den; exact Iff.rfl
theorem den_adr {a : Addr} {v : V} : Den K ρ H (.adr a) v ↔ v = .ref a := by unfold Den; exact Iff.rfl
theorem den_ref {l : Nat} {v : V} : Den K ρ H (.ref l) v ↔ ∃ a o, v = .ref a ∧ ρ.c[l]? = some o ∧ ∀ b, o = some b → b = a := by unfold Den; exact Iff.rfl
theorem den_tup {ds : List D} {v : V} : Den K ρ H (.tup ds) v ↔ ∃ a xs, v = .ref a ∧ SqT K H a xs ∧ Dens K ρ H ds xs := by unfold Den; exact Iff.rfl
theorem den_lst {ds : List D} {v : V} : Den K ρ H (.lst ds) v ↔ ∃ a xs, v = .ref a ∧ LsV K ρ H a xs ∧ Dens K ρ H ds xs := by unfold Den; exact Iff.rfl
theorem den_dct {ks : List Key} {ds : List D} {v : V} : Den K ρ H (.dct ks ds) v ↔ ∃ a kvs, v = .ref a ∧ Rd H a (.dK kvs) ∧ some a ∉ ρ.c ∧ kvs.map (·.1) = ks ∧ Dens K ρ H ds (kvs.map (·.2)) := by unfold Den; exact Iff.rfl
theorem den_fn {n : Str} {v : V} : Den K ρ H (.fn n) v ↔ ∃ a, PySem.W.nsIn K mainGlobals n = some (some (.ref a)) ∧ v = .ref a := by unfold Den; exact Iff.rfl
theorem den_exo {c : Str} {hd : Bool} {ks : List Str} {ds : List D} {v : V} : Den K ρ H (.exo c hd ks ds) v ↔ ∃ a cv d, v = .ref a ∧ CN K c cv ∧ H a = some (ExV cv d a) ∧ (hd = false ∧ d = none ∨ hd = true ∧ ∃ dd gs, d = some dd ∧ H dd = some (.xd gs) ∧ gs.map (·.1) = ks ∧ Dens K ρ H ds (gs.map (·.2))) := by unfold Den; exact Iff.rfl
theorem dens_nil {vs : List V} : Dens K ρ H [] vs ↔ vs = [] := by unfold Dens; exact Iff.rfl
theorem dens_cons {d : D} {ds : List D} {vs : List V} : Dens K ρ H (d :: ds) vs ↔ ∃ v r, vs = v :: r ∧ Den K ρ H d v ∧ Dens K ρ H ds r := by rw [Dens]
theorem dens_iff {ds : List D} {vs : List V} : Dens K ρ H ds vs ↔ Paired (Den K ρ H) ds vs := by
  induction ds generalizing vs with
  | nil =>
    rw [dens_nil]
    exact ⟨fun e => e ▸ .nil, fun p => by cases p; rfl⟩
  | cons d ds ih =>
    rw [dens_cons]
    exact ⟨fun ⟨v, r, e, h1, h2⟩ => e ▸ .cons h1 (ih.mp h2), fun p => by
      cases p with
      | cons h1 h2 => exact ⟨_, _, rfl, h1, ih.mpr h2⟩⟩
theorem Dens.length {ds : List D} {vs : List V} (h : Dens K ρ H ds vs) : ds.length = vs.length := Paired.length (dens_iff.mp h)
theorem Dens.append {ds es : List D} {vs ws : List V} (h : Dens K ρ H ds vs) (g : Dens K ρ H es ws) : Dens K ρ H (ds ++ es) (vs ++ ws) := by
  induction ds generalizing vs with
  | nil => rw [dens_nil] at h; subst h; exact g
  | cons d ds ih =>
    obtain ⟨v, r, rfl, h1, h2⟩ := dens_cons.mp h
    exact dens_cons.mpr ⟨v, r ++ ws, rfl, h1, ih h2⟩
theorem Dens.get {ds : List D} {vs : List V} (h : Dens K ρ H ds vs) {i : Nat} {d : D} (e : ds[i]? = some d) : ∃ v, vs[i]? = some v ∧ Den K ρ H d v := by
  induction ds generalizing vs i with
  | nil => simp at e
  | cons d0 ds ih =>
    obtain ⟨v, r, rfl, h1, h2⟩ := dens_cons.mp h
    cases i with
    | zero => simp at e; subst e; exact ⟨v, rfl, h1⟩
    | succ i => simpa using ih h2 (by simpa using e)
theorem Dens.getV {ds : List D} {vs : List V} (h : Dens K ρ H ds vs) {i : Nat} {v : V} (e : vs[i]? = some v) : ∃ d, ds[i]? = some d ∧ Den K ρ H d v := by
  have hi : i < ds.length := by rw [h.length]; exact (List.getElem?_eq_some_iff.mp e).1
  obtain ⟨w, h1, h2⟩ := h.get (List.getElem?_eq_getElem hi)
  rw [e] at h1; cases h1
  exact ⟨_, List.getElem?_eq_getElem hi, h2⟩
theorem Dens.take {ds : List D} {vs : List V} (n : Nat) (h : Dens K ρ H ds vs) : Dens K ρ H (ds.take n) (vs.take n) := by
  induction ds generalizing vs n with
  | nil => rw [dens_nil] at h; subst h; simp [dens_nil]
  | cons d ds ih =>
    obtain ⟨v, r, rfl, h1, h2⟩ := dens_cons.mp h
    cases n with
    | zero => simp [dens_nil]
    | succ n => simpa using dens_cons.mpr ⟨v, r.take n, rfl, h1, ih n h2⟩
theorem Dens.drop {ds : List D} {vs : List V} (n : Nat) (h : Dens K ρ H ds vs) : Dens K ρ H (ds.drop n) (vs.drop n) := by
  induction ds generalizing vs n with
  | nil => rw [dens_nil] at h; subst h; simp [dens_nil]
  | cons d ds ih =>
    obtain ⟨v, r, rfl, h1, h2⟩ := dens_cons.mp h
    cases n with
    | zero => simpa using dens_cons.mpr ⟨v, r, rfl, h1, h2⟩
    | succ n => simpa using ih n h2
theorem Dens.reverse {ds : List D} {vs : List V} (h : Dens K ρ H ds vs) : Dens K ρ H ds.reverse vs.reverse := by
  induction ds generalizing vs with
  | nil => rw [dens_nil] at h; subst h; simp [dens_nil]
  | cons d ds ih =>
    obtain ⟨v, r, rfl, h1, h2⟩ := dens_cons.mp h
    rw [List.reverse_cons, List.reverse_cons]
    exact (ih h2).append (dens_cons.mpr ⟨v, [], rfl, h1, dens_nil.mpr rfl⟩)
theorem dens_ints {ns : List Int} : Dens K ρ H (ns.map D.int) (ns.map V.int) := by
  induction ns with
  | nil => exact dens_nil.mpr rfl
  | cons n ns ih => exact dens_cons.mpr ⟨_, _, rfl, den_int.mpr rfl, ih⟩
theorem dens_ints_inv {ns : List Int} {vs : List V} (h : Dens K ρ H (ns.map D.int) vs) : vs = ns.map V.int := by
  induction ns generalizing vs with
  | nil => exact dens_nil.mp h
  | cons n ns ih =>
    obtain ⟨v, r, rfl, h1, h2⟩ := dens_cons.mp h
    rw [den_int.mp h1, ih h2]; rfl

/-! ### new objects -/
theorem Stp.alloc {p : Addr} {o : HO} (hp : H p = none) : Stp ρ H ρ (upd H p o) := ⟨fun _ _ h => .inl h, fun _ h => .inl h, fun a u h _ => by rw [upd_ne (ne_of_none h hp)]; exact h, rfl⟩
/-- the cells stand where only others change -/
theorem Rel.same (R : Rel K ρ M H) (S : Stp ρ H ρ H') (k : ∀ a o, some a ∈ ρ.c → H a = some o → H' a = some o) : Rel K ρ M H' where
  len := R.len
  hid := fun a m => let ⟨n, xs, e⟩ := R.hid a m; ⟨n, xs, S.keep a _ e n⟩
  inj := R.inj
  obj := fun l o e => by
    have q := R.obj l o e
    cases o with
    | lst ds =>
      obtain ⟨a, xs, h1, h2, h3⟩ := q
      exact ⟨a, xs, h1, k a _ (mem_of_get h1) h2, Dens.step R S _ _ h3⟩
    | dct kvs =>
      obtain ⟨a, xs, h1, h2, h3⟩ := q
      exact ⟨a, xs, h1, k a _ (mem_of_get h1) h2, DenP.step R S h3⟩
    | ins C fs =>
      obtain ⟨a, Ca, dx, gs, h1, cn, h2, h3⟩ := q
      exact ⟨a, Ca, dx, gs, h1, cn, k a _ (mem_of_get h1) h2, DenP.step R S h3⟩
    | gone => exact q
theorem Rel.alloc (R : Rel K ρ M H) {p : Addr} {o : HO} (hp : H p = none) : Rel K ρ M (upd H p o) :=
  R.same (Stp.alloc hp) fun a u _ h => by rw [upd_ne (ne_of_none h hp)]; exact h
theorem den_newT (R : Rel K ρ M H) {p : Addr} {ds : List D} {xs : List V} (hp : H p = none) (h : Dens K ρ H ds xs) : Den K ρ (upd H p (.tup xs)) (.tup ds) (.ref p) :=
  den_tup.mpr ⟨p, xs, rfl, .inl (.inl upd_same), Dens.step R (Stp.alloc hp) _ _ h⟩
theorem den_newL (R : Rel K ρ M H) {p : Addr} {ds : List D} {xs : List V} (hp : H p = none) (h : Dens K ρ H ds xs) : Den K ρ (upd H p (.lst xs)) (.lst ds) (.ref p) :=
  den_lst.mpr ⟨p, xs, rfl, .inl ⟨.inl upd_same, R.fresh hp, R.freshH hp⟩, Dens.step R (Stp.alloc hp) _ _ h⟩
end
end Mi

end

section
/-! Mi, second part: what an expression comes to, as a function on data; the judgement that says so; names, constants, operators, tests. -/
namespace Mi
open PySem PySem.Spec PyProof.Rows L2

inductive R (α : Type) where
  | ok (a : α) (M : MH)
  | exc (c : Str) (fs : Option (List (Str × D))) (M : MH)
  | err
def R.bind {α β : Type} (r : R α) (f : α → MH → R β) : R β := match r with
  | .ok a M => f a M
  | .exc c fs M => .exc c fs M
  | .err => .err
@[simp] theorem R.bind_ok {α β : Type} (a : α) (M : MH) (f : α → MH → R β) : (R.ok a M).bind f = f a M := rfl
@[simp] theorem R.bind_exc {α β : Type} (c : Str) (fs : Option (List (Str × D))) (M : MH) (f : α → MH → R β) : (R.exc c fs M).bind f = .exc c fs M := rfl
@[simp] theorem R.bind_err {α β : Type} (f : α → MH → R β) : (R.err : R α).bind f = .err := rfl

abbrev En := List (Option D)
abbrev ME := En → MH → R D
abbrev MT := En → MH → R Bool
abbrev MA := En → MH → R (List D)

/-- the slots' values -/
structure EnR (K : PySem.W.Frag) (ρ : Rho) (H : Hp) (env : En) (σ : L2.St) : Prop where
  len : env.length = σ.length
  get : ∀ (i : Nat) (d : D), env[i]? = some (some d) → ∃ v : V, σ[i]? = some (some v) ∧ Den K ρ H d v
theorem EnR.step {K : PySem.W.Frag} {ρ ρ' : Rho} {M : MH} {H H' : Hp} {env : En} {σ : L2.St} (e : EnR K ρ H env σ) (Rl : Rel K ρ M H) (S : Stp ρ H ρ' H') : EnR K ρ' H' env σ :=
  ⟨e.len, fun i d h => let ⟨v, h1, h2⟩ := e.get i d h; ⟨v, h1, Den.step Rl S _ _ h2⟩⟩
theorem EnR.tr {K : PySem.W.Frag} {ρ ρ' : Rho} {H H' : Hp} {env : En} {σ : L2.St} (e : EnR K ρ H env σ) (T : Tr ρ H ρ' H') : EnR K ρ' H' env σ :=
  ⟨e.len, fun i d h => let ⟨v, h1, h2⟩ := e.get i d h; ⟨v, h1, Den.tr T _ _ h2⟩⟩
theorem EnR.set {K : PySem.W.Frag} {ρ : Rho} {H : Hp} {env : En} {σ : L2.St} {d : D} {v : V} (e : EnR K ρ H env σ) (i : Nat) (h : Den K ρ H d v) : EnR K ρ H (env.set i (some d)) (σ.set i (some v)) := by
  refine ⟨by simp [e.len], fun j d' hj => ?_⟩
  by_cases q : i = j
  · subst q
    have hl : i < env.length := by
      have := (List.getElem?_eq_some_iff.mp hj).1
      simpa using this
    rw [List.getElem?_set_self hl] at hj
    cases hj
    exact ⟨v, by rw [List.getElem?_set_self (by rw [← e.len]; exact hl)], h⟩
  · rw [List.getElem?_set_ne q] at hj
    rw [List.getElem?_set_ne q]
    exact e.get j d' hj

def XRel (K : PySem.W.Frag) (ρ : Rho) (H : Hp) : Option (List (Str × D)) → Option Addr → Prop
  | none, d => d = none
  | some fs, d => ∃ a gs, d = some a ∧ H a = some (.xd gs) ∧ DenP K ρ H fs gs

/-- a result holds: whatever stands for it, the wish is so -/
def Ok {α β : Type} (K : PySem.W.Frag) (ρ : Rho) (H : Hp) (dn : Rho → Hp → α → β → Prop) (W : Value → Option Addr → Hp → Prop) (Q : β → Hp → Prop) : R α → Prop
  | .ok a M => ∀ ρ' H' v, Stp ρ H ρ' H' → Rel K ρ' M H' → dn ρ' H' a v → Q v H'
  | .exc c fs M => ∀ ρ' H' d cv, CN K c cv → Stp ρ H ρ' H' → Rel K ρ' M H' → XRel K ρ' H' fs d → W cv d H'
  | .err => False
theorem Ok.bind {α β α' β' : Type} {K : PySem.W.Frag} {ρ : Rho} {H : Hp} {dn : Rho → Hp → α → β → Prop} {dn' : Rho → Hp → α' → β' → Prop} {W : Value → Option Addr → Hp → Prop} {Q : β' → Hp → Prop} {r : R α} {f : α → MH → R α'}
    {Q1 : β → Hp → Prop} (h : Ok K ρ H dn' W Q (r.bind f))
    (k : ∀ a M ρ1 H1 v, r = .ok a M → Stp ρ H ρ1 H1 → Rel K ρ1 M H1 → dn ρ1 H1 a v → Ok K ρ1 H1 dn' W Q (f a M) → Q1 v H1) : Ok K ρ H dn W Q1 r := by
  cases r with
  | err => exact h
  | exc c fs M => exact h
  | ok a M =>
    intro ρ1 H1 v S Rl d
    refine k a M ρ1 H1 v rfl S Rl d ?_
    have h' : Ok K ρ H dn' W Q (f a M) := h
    cases e : f a M with
    | err => rw [e] at h'; exact h'
    | exc c fs M' =>
      rw [e] at h'
      exact fun ρ2 H2 dd cv cn S2 R2 x => h' ρ2 H2 dd cv cn (S.trans S2) R2 x
    | ok b M' =>
      rw [e] at h'
      exact fun ρ2 H2 w S2 R2 x => h' ρ2 H2 w (S.trans S2) R2 x
theorem Ok.mono {α β : Type} {K : PySem.W.Frag} {ρ : Rho} {H : Hp} {dn : Rho → Hp → α → β → Prop} {W : Value → Option Addr → Hp → Prop} {Q Q' : β → Hp → Prop} {r : R α} (h : Ok K ρ H dn W Q r) (q : ∀ v H', Q v H' → Q' v H') : Ok K ρ H dn W Q' r := by
  cases r with
  | err => exact h
  | exc c fs M => exact h
  | ok a M => exact fun ρ1 H1 v S Rl d => q v H1 (h ρ1 H1 v S Rl d)

abbrev DnD (K : PySem.W.Frag) : Rho → Hp → D → V → Prop := fun ρ H d v => Den K ρ H d v
abbrev DnB : Rho → Hp → Bool → Bool → Prop := fun _ _ a b => a = b
abbrev DnA (K : PySem.W.Frag) : Rho → Hp → List D → List V → Prop := fun ρ H d v => Dens K ρ H d v

/-- readings out of functions -/
def tm {α β : Type} (K : PySem.W.Frag) (dn : Rho → Hp → α → β → Prop) (W : WX) (m : En → MH → R α) : L2.St → Hp → (β → Hp → Prop) → Prop :=
  fun σ H Q => ∃ ρ M env, Rel K ρ M H ∧ EnR K ρ H env σ ∧ Ok K ρ H dn (fun c d H' => W c d σ H') Q (m env M)
theorem tm_bind {α β α' β' : Type} {K : PySem.W.Frag} {dn : Rho → Hp → α → β → Prop} {dn' : Rho → Hp → α' → β' → Prop} {W : WX} {m : En → MH → R α} {f : α → En → MH → R α'} {σ : L2.St} {H : Hp} {Q : β' → Hp → Prop} {Q1 : β → Hp → Prop}
    (h : tm K dn' W (fun env M => (m env M).bind fun a M1 => f a env M1) σ H Q)
    (k : ∀ a M1 ρ1 H1 v env, Rel K ρ1 M1 H1 → EnR K ρ1 H1 env σ → dn ρ1 H1 a v → Ok K ρ1 H1 dn' (fun c d H' => W c d σ H') Q (f a env M1) → Q1 v H1) : tm K dn W m σ H Q1 := by
  obtain ⟨ρ, M, env, Rl, E, h⟩ := h
  exact ⟨ρ, M, env, Rl, E, h.bind fun a M1 ρ1 H1 v _ S R1 d h1 => k a M1 ρ1 H1 v env R1 (E.step Rl S) d h1⟩
theorem tm_mono {α β : Type} {K : PySem.W.Frag} {dn : Rho → Hp → α → β → Prop} {W : WX} {m : En → MH → R α} {σ : L2.St} {H : Hp} {Q Q' : β → Hp → Prop} (h : tm K dn W m σ H Q) (q : ∀ v H', Q v H' → Q' v H') : tm K dn W m σ H Q' := by
  obtain ⟨ρ, M, env, Rl, E, h⟩ := h
  exact ⟨ρ, M, env, Rl, E, h.mono q⟩

/-- e is m -/
def SE (X : Cx) (W : WX) (e : Expr) (m : ME) : Prop := PE X e (tm X.K (DnD X.K) W m)
def ST (X : Cx) (W : WX) (e : Expr) (m : MT) : Prop := PT X e (tm X.K DnB W m)
def SA (X : Cx) (W : WX) (es : List Expr) (m : MA) : Prop := PA X es (tm X.K (DnA X.K) W m)

theorem pe_imp {X : Cx} {e : Expr} {t t' : TE} (h : PE X e t) (i : ∀ σ H Q, t' σ H Q → t σ H Q) : PE X e t' := ⟨fun pins s σ H Q I q => h.run pins s σ H Q I (i σ H Q q)⟩
theorem pt_imp {X : Cx} {e : Expr} {t t' : TT} (h : PT X e t) (i : ∀ σ H Q, t' σ H Q → t σ H Q) : PT X e t' := ⟨fun pins s σ H Q I q => h.run pins s σ H Q I (i σ H Q q)⟩
theorem pa_imp {X : Cx} {e : List Expr} {t t' : TA} (h : PA X e t) (i : ∀ σ H Q, t' σ H Q → t σ H Q) : PA X e t' := ⟨fun pos pins s σ H Q I q => h.run pos pins s σ H Q I (i σ H Q q)⟩
/-- the rule may be chosen by what the function tells -/
theorem pe_by {X : Cx} {e : Expr} {t' : TE} (h : ∀ σ H Q, t' σ H Q → ∃ t : TE, PE X e t ∧ t σ H Q) : PE X e t' := ⟨fun pins s σ H Q I q => by
  obtain ⟨t, p, q⟩ := h σ H Q q
  exact p.run pins s σ H Q I q⟩
theorem pt_by {X : Cx} {e : Expr} {t' : TT} (h : ∀ σ H Q, t' σ H Q → ∃ t : TT, PT X e t ∧ t σ H Q) : PT X e t' := ⟨fun pins s σ H Q I q => by
  obtain ⟨t, p, q⟩ := h σ H Q q
  exact p.run pins s σ H Q I q⟩

/-! ### names and constants -/
def mVar (i : Nat) : ME := fun env M => match env[i]? with
  | some (some d) => .ok d M
  | _ => .err
def mC (d : D) : ME := fun _ M => .ok d M
section
variable {X : Cx} {W : WX}
theorem s_var {i : Nat} {x : Str} {pos : Pos} (hN : X.N[i]? = some x := by rfl) (hv : Vis X.env.scope x := by first | exact Or.inl rfl | exact Or.inr (Or.inl rfl) | exact Or.inr (Or.inr rfl)) (hd : (x == ("__debug__" : Str)) = false := by decide)
    (hcd : (x == ("__classdict__" : Str)) = false := by decide) : SE X W (.Name x pos) (mVar i) := by
  refine pe_imp (pe_var hN hv hd hcd) fun σ H Q h => ?_
  obtain ⟨ρ, M, env, Rl, E, h⟩ := h
  unfold mVar at h
  cases e : env[i]? with
  | none => rw [e] at h; exact h.elim
  | some o =>
    cases o with
    | none => rw [e] at h; exact h.elim
    | some d =>
      rw [e] at h
      obtain ⟨v, h1, h2⟩ := E.get i d e
      exact ⟨v, h1, h ρ H v (Stp.refl (K := X.K) (M := M)) Rl h2⟩
/-- a value that is so in every heap -/
def Fix (K : PySem.W.Frag) (d : D) (v : V) : Prop := ∀ ρ H, Den K ρ H d v
theorem s_const {e : Expr} {d : D} {v : V} (h : PE X e (tC v)) (f : Fix X.K d v) : SE X W e (mC d) := by
  refine pe_imp h fun σ H Q q => ?_
  obtain ⟨ρ, M, env, Rl, E, q⟩ := q
  exact q ρ H v (Stp.refl (K := X.K) (M := M)) Rl (f ρ H)
theorem s_int {i j pos} : SE X W (.Constant (.int i) j pos) (mC (.int i)) := s_const pe_int fun _ _ => den_int.mpr rfl
theorem s_bl {b j pos} : SE X W (.Constant (.bool b) j pos) (mC (.bl b)) := s_const pe_bl fun _ _ => den_bl.mpr rfl
theorem s_non {j pos} : SE X W (.Constant .none j pos) (mC .non) := s_const pe_non fun _ _ => den_non.mpr rfl
theorem s_str {x j pos} : SE X W (.Constant (.str x) j pos) (mC (.str x)) := s_const pe_str fun _ _ => den_str.mpr rfl
theorem s_glob {x : Str} {d : D} {v : V} {u : Value} {pos : Pos} (hm : X.mg x = some u) (r : RelV v u) (f : Fix X.K d v) (hg : Gl X x := by rfl) (hd : (x == ("__debug__" : Str)) = false := by decide) : SE X W (.Name x pos) (mC d) := s_const (pe_glob hg hm r hd) f
theorem fix_int {K : PySem.W.Frag} {i : Int} : Fix K (.int i) (.int i) := fun _ _ => den_int.mpr rfl
theorem fix_str {K : PySem.W.Frag} {i : Str} : Fix K (.str i) (.str i) := fun _ _ => den_str.mpr rfl
theorem fix_adr {K : PySem.W.Frag} {a : Addr} : Fix K (.adr a) (.ref a) := fun _ _ => den_adr.mpr rfl

/-! ### lists of arguments -/
def aNil : MA := fun _ M => .ok [] M
def aCons (m : ME) (r : MA) : MA := fun env M => (m env M).bind fun d M1 => (r env M1).bind fun ds M2 => .ok (d :: ds) M2
theorem a_nil : SA X W [] aNil := by
  refine pa_imp pa_nil fun σ H Q h => ?_
  obtain ⟨ρ, M, env, Rl, E, h⟩ := h
  exact h ρ H [] (Stp.refl (K := X.K) (M := M)) Rl (dens_nil.mpr rfl)
theorem a_cons {e : Expr} {es : List Expr} {m : ME} {r : MA} (h1 : SE X W e m) (h2 : SA X W es r) (hs : starEach (e :: es) X.env = (false, eval e X.env) :: starEach es X.env := by rfl) : SA X W (e :: es) (aCons m r) := by
  refine pa_imp (pa_cons h1 h2 hs) fun σ H Q h => ?_
  refine tm_bind (f := fun d env M1 => (r env M1).bind fun ds M2 => .ok (d :: ds) M2) h fun d M1 ρ1 H1 v env R1 E1 dv h => ?_
  refine ⟨ρ1, M1, env, R1, E1, h.bind fun ds M2 ρ2 H2 vs _ S R2 dd h => ?_⟩
  exact h ρ2 H2 (v :: vs) (Stp.refl (K := X.K) (M := M2)) R2 (dens_cons.mpr ⟨v, vs, rfl, Den.step R1 S _ _ dv, dd⟩)

/-! ### values out of values -/
/-- a built-in operation on a list of values: told by f -/
abbrev Op1 := D → MH → R D
abbrev Op2 := D → D → MH → R D
abbrev OpN := List D → MH → R D
def m1 (f : Op1) (a : ME) : ME := fun env M => (a env M).bind fun x M1 => f x M1
def m2 (f : Op2) (a b : ME) : ME := fun env M => (a env M).bind fun x M1 => (b env M1).bind fun y M2 => f x y M2
def mN (f : OpN) (a : MA) : ME := fun env M => (a env M).bind fun xs M1 => f xs M1
/-- what an operation on values does -/
abbrev ROk (K : PySem.W.Frag) (ρ : Rho) (H : Hp) (Q : VK) (r : R D) : Prop := Ok K ρ H (DnD K) (fun _ _ _ => False) Q r
def Op2R (X : Cx) (f : Value → Value → Sem Value) (g : Op2) : Prop := ∀ ρ M H x y v w Q, Rel X.K ρ M H → Den X.K ρ H x v → Den X.K ρ H y w → ROk X.K ρ H Q (g x y M) → ∃ r : R2, OpR X f r ∧ r v w H Q
/-- g raises nothing -/
def Quiet2 (g : Op2) : Prop := ∀ x y M c fs M', g x y M ≠ .exc c fs M'
theorem ok_quiet {α β : Type} {K : PySem.W.Frag} {ρ : Rho} {H : Hp} {dn : Rho → Hp → α → β → Prop} {W W' : Value → Option Addr → Hp → Prop} {Q : β → Hp → Prop} {r : R α} (q : ∀ c fs M, r ≠ .exc c fs M) (h : Ok K ρ H dn W Q r) : Ok K ρ H dn W' Q r := by
  cases r with
  | ok a M => exact h
  | err => exact h
  | exc c fs M => exact absurd rfl (q c fs M)
theorem s_bin {op : Operator} {g : Op2} {a b : Expr} {pos : Pos} {ma mb : ME} (o : Op2R X (binaryOp op) g) (q : Quiet2 g) (ha : SE X W a ma) (hb : SE X W b mb) : SE X W (.BinOp a op b pos) (m2 g ma mb) := by
  refine ⟨fun pins s σ H Q I h => ?_⟩
  refine wpAny_BinOp (binT ha hb (R := fun v w H2 => ∃ r : R2, OpR X (binaryOp op) r ∧ r v w H2 Q) I ?_ fun v u s2 x y H2 I2 rx ry ⟨r, hr, hq⟩ => hr pins s2 σ H2 x y v u Q I2 rx ry hq)
  refine tm_bind (f := fun x env M1 => (mb env M1).bind fun y M2 => g x y M2) h fun x M1 ρ1 H1 v env R1 E1 dx h => ?_
  exact ⟨ρ1, M1, env, R1, E1, h.bind fun y M2 ρ2 H2 w _ S R2 dy h => o ρ2 M2 H2 x y v w Q R2 (Den.step R1 S _ _ dx) dy (ok_quiet (q x y M2) h)⟩
theorem s_cmp {op : CmpOp} {g : Op2} {a b : Expr} {pos : Pos} {ma mb : ME} (o : Op2R X (compareOp op) g) (q : Quiet2 g) (ha : SE X W a ma) (hb : SE X W b mb) (hm : behindInMarks op b = false) : SE X W (.Compare a [op] [b] pos) (m2 g ma mb) := by
  refine ⟨fun pins s σ H Q I h => ?_⟩
  refine wpAny_Compare1 (binT ha hb (R := fun v w H2 => ∃ r : R2, OpR X (compareOp op) r ∧ r v w H2 Q) I ?_ fun v u s2 x y H2 I2 rx ry ⟨r, hr, hq⟩ => hr pins s2 σ H2 x y v u Q I2 rx ry hq) hm
  refine tm_bind (f := fun x env M1 => (mb env M1).bind fun y M2 => g x y M2) h fun x M1 ρ1 H1 v env R1 E1 dx h => ?_
  exact ⟨ρ1, M1, env, R1, E1, h.bind fun y M2 ρ2 H2 w _ S R2 dy h => o ρ2 M2 H2 x y v w Q R2 (Den.step R1 S _ _ dx) dy (ok_quiet (q x y M2) h)⟩
end
end Mi

end

section
/-! Mi, third part: the operators, by what they do with data. -/
namespace Mi
open PySem PySem.Spec PyProof.Rows L2

/-- what a body may lean on -/
structure Cf (X : Cx) : Prop where
  hu : X.A.units + 100 < cLine
  guards : X.A.guards = some []
abbrev lim : Nat := 1000000
theorem lim_le {n : Nat} (h : n ≤ lim) : n ≤ sizeLine := Nat.le_trans h (by decide)
theorem lim_lt {n : Nat} (h : n < lim) : n < sizeLine := Nat.lt_of_lt_of_le h (by decide)

/-! ### lists joined, wherever they stand -/
section
variable {prog : Program} {w : World} {A : Around} {E : Value → Shared → Prop} {s : Shared}
theorem joinL {l b : Addr} {us ws : List Value} {Q : Value → Shared → Prop} (p1 : s.heap.IsList l us.toArray) (p2 : s.heap.IsList b ws.toArray) (z : us.length + ws.length ≤ sizeLine)
    (q : Q (.ref s.heap.objs.size) { s with heap := s.heap.push { cls := .type "list", data := .seq (us ++ ws).toArray } }) : wpAny (model prog w) A (binaryOp .Add (.ref l) (.ref b)) Q E s := by
  obtain ⟨⟨k1, d1, a1, t1⟩, g1, e1, n1, f1⟩ := p1
  obtain ⟨⟨k2, d2, a2, t2⟩, g2, e2, n2, f2⟩ := p2
  simp only at e1 f1 e2 f2
  subst e1 f1 e2 f2
  have ea : us.toArray ++ ws.toArray = (us ++ ws).toArray := by simp
  refine concat_meets ⟨_, g1, rfl⟩ ⟨_, g2, rfl⟩ noFill_list_add seq_list_add
    PySem.F.slot_list_add PySem.F.entry_list_add (PySem.F.args_list_add_2 _ _)
    (list_addW l b us.toArray ws.toArray n1 n2 d1 d2 t1 t2 (by simpa using z)) ⟨g1, g2, ?_⟩
  rw [ea]
  exact q
end
section
variable {X : Cx}
def rJoin (K : PySem.W.Frag) : R2 := fun x y H Q => ∃ l b xs zs, x = .ref l ∧ y = .ref b ∧ SqL K H l xs ∧ SqL K H b zs ∧ xs.length + zs.length ≤ sizeLine ∧ ∀ p, H p = none → Q (.ref p) (upd H p (.lst (xs ++ zs)))
theorem op_join : OpR X (binaryOp .Add) (rJoin X.K) := by
  intro pins s σ H x y v u Q I rx ry h
  obtain ⟨l, b, xs, zs, rfl, rfl, h1, h2, hz, q⟩ := h
  cases rx
  cases ry
  obtain ⟨its, r1, p1, _⟩ := I.list h1
  obtain ⟨its2, r2, p2, _⟩ := I.list h2
  have e1 := r1.length
  have e2 := r2.length
  refine joinL p1.isList p2.isList (by omega) ?_
  exact ⟨.ref _, _, I.lnew (t' := s.toks) (r1.append r2) (by rw [List.length_append]; omega), rfl, q _ I.fresh⟩

/-! ### + -/
def addD : Op2 := fun x y M => match x, y with
  | .int i, .int j => .ok (.int (i + j)) M
  | .str a, .str b => if a.length + b.length ≤ lim then .ok (.str (a ++ b)) M else .err
  | .tup xs, .tup ys => if xs.length + ys.length ≤ lim then .ok (.tup (xs ++ ys)) M else .err
  | .lst xs, .lst ys => if xs.length + ys.length ≤ lim then .ok (.lst (xs ++ ys)) M else .err
  | .ref l, .lst ys => match M[l]? with
    | some (.lst xs) => if xs.length + ys.length ≤ lim then .ok (.lst (xs ++ ys)) M else .err
    | _ => .err
  | _, _ => .err
theorem here {α : Type} {K : PySem.W.Frag} {ρ : Rho} {M : MH} {H : Hp} {dn : Rho → Hp → D → α → Prop} {W : Value → Option Addr → Hp → Prop} {Q : α → Hp → Prop} {d : D} {v : α} (Rl : Rel K ρ M H) (h : Ok K ρ H dn W Q (.ok d M)) (e : dn ρ H d v) : Q v H :=
  h ρ H v (Stp.refl (K := K) (M := M)) Rl e
theorem newT {K : PySem.W.Frag} {ρ : Rho} {M : MH} {H : Hp} {W : Value → Option Addr → Hp → Prop} {Q : VK} {ds : List D} {xs : List V} (Rl : Rel K ρ M H) (h : Ok K ρ H (DnD K) W Q (.ok (.tup ds) M)) (e : Dens K ρ H ds xs) : ∀ p, H p = none → Q (.ref p) (upd H p (.tup xs)) :=
  fun p hp => h ρ _ _ (Stp.alloc hp) (Rl.alloc hp) (den_newT Rl hp e)
theorem newL {K : PySem.W.Frag} {ρ : Rho} {M : MH} {H : Hp} {W : Value → Option Addr → Hp → Prop} {Q : VK} {ds : List D} {xs : List V} (Rl : Rel K ρ M H) (h : Ok K ρ H (DnD K) W Q (.ok (.lst ds) M)) (e : Dens K ρ H ds xs) : ∀ p, H p = none → Q (.ref p) (upd H p (.lst xs)) :=
  fun p hp => h ρ _ _ (Stp.alloc hp) (Rl.alloc hp) (den_newL Rl hp e)
theorem o_add : Op2R X (binaryOp .Add) addD := by
  intro ρ M H x y v w Q Rl dx dy h
  unfold addD at h
  split at h
  · rw [den_int] at dx dy
    subst dx dy
    exact ⟨_, op_add, _, _, rfl, rfl, here Rl h (den_int.mpr rfl)⟩
  · rw [den_str] at dx dy
    subst dx dy
    split at h
    · rename_i z
      exact ⟨_, op_add_str, _, _, rfl, rfl, lim_le z, here Rl h (den_str.mpr rfl)⟩
    · exact h.elim
  · rename_i ds es
    obtain ⟨a, xs, rfl, hs, hd⟩ := den_tup.mp dx
    obtain ⟨b, ys, rfl, hs2, hd2⟩ := den_tup.mp dy
    split at h
    · rename_i z
      refine ⟨_, op_catA, a, b, xs, ys, rfl, rfl, hs, hs2, by rw [← hd.length, ← hd2.length]; exact lim_le z, fun e => ?_, fun _ e => ?_, fun _ _ => newT Rl h (hd.append hd2)⟩
      · subst e
        have e2 : ds = [] := List.eq_nil_of_length_eq_zero hd.length
        subst e2
        exact here Rl h dy
      · subst e
        have e2 : es = [] := List.eq_nil_of_length_eq_zero hd2.length
        subst e2
        rw [List.append_nil] at h
        exact here Rl h dx
    · exact h.elim
  · rename_i ds es
    obtain ⟨a, xs, rfl, hs, hd⟩ := den_lst.mp dx
    obtain ⟨b, ys, rfl, hs2, hd2⟩ := den_lst.mp dy
    split at h
    · rename_i z
      exact ⟨_, op_join, a, b, xs, ys, rfl, rfl, hs.sq, hs2.sq, by rw [← hd.length, ← hd2.length]; exact lim_le z, newL Rl h (hd.append hd2)⟩
    · exact h.elim
  · rename_i l es
    obtain ⟨a, o, rfl, hl, ho⟩ := den_ref.mp dx
    obtain ⟨b, ys, rfl, hs2, hd2⟩ := den_lst.mp dy
    split at h
    · rename_i ds hm
      obtain ⟨a', xs, h1, h2, hd⟩ := Rl.obj l _ hm
      rw [hl] at h1
      cases h1
      have e := ho a' rfl
      subst e
      split at h
      · rename_i z
        exact ⟨_, op_join, _, b, xs, ys, rfl, rfl, SqL.of h2, hs2.sq, by rw [← hd.length, ← hd2.length]; exact lim_le z, newL Rl h (hd.append hd2)⟩
      · exact h.elim
    · exact h.elim
  · exact h.elim
theorem q_add : Quiet2 addD := by
  intro x y M c fs M' e
  unfold addD at e
  (repeat' split at e) <;> cases e

/-! ### the other operators on whole numbers -/
def int2 (g : Int → Int → Option Int) : Op2 := fun x y M => match x, y with
  | .int i, .int j => match g i j with
    | some k => .ok (.int k) M
    | none => .err
  | _, _ => .err
theorem q_int2 {g : Int → Int → Option Int} : Quiet2 (int2 g) := by
  intro x y M c fs M' e
  unfold int2 at e
  (repeat' split at e) <;> cases e
theorem o_int2 {f : Value → Value → Sem Value} {g : Int → Int → Option Int} {C : Int → Int → Prop} {k : Int → Int → V} (o : OpR X f (rI C k)) (hc : ∀ i j z, g i j = some z → C i j ∧ k i j = .int z) : Op2R X f (int2 g) := by
  intro ρ M H x y v w Q Rl dx dy h
  unfold int2 at h
  split at h
  · rename_i i j
    rw [den_int] at dx dy
    subst dx dy
    split at h
    · rename_i z e
      obtain ⟨h1, h2⟩ := hc i j z e
      refine ⟨_, o, i, j, rfl, rfl, h1, ?_⟩
      rw [h2]
      exact here Rl h (den_int.mpr rfl)
    · exact h.elim
  · exact h.elim
theorem o_int2' {f : Value → Value → Sem Value} {g : Int → Int → Option Int} {k : Int → Int → V} (o : OpR X f (rI0 k)) (hc : ∀ i j z, g i j = some z → k i j = .int z) : Op2R X f (int2 g) := by
  intro ρ M H x y v w Q Rl dx dy h
  unfold int2 at h
  split at h
  · rename_i i j
    rw [den_int] at dx dy
    subst dx dy
    split at h
    · rename_i z e
      refine ⟨_, o, i, j, rfl, rfl, ?_⟩
      rw [hc i j z e]
      exact here Rl h (den_int.mpr rfl)
    · exact h.elim
  · exact h.elim
def subD : Op2 := int2 fun i j => some (i - j)
theorem o_sub : Op2R X (binaryOp .Sub) subD := o_int2' op_sub fun i j z e => by cases e; rfl
def modD : Op2 := int2 fun i j => if 0 < j then some (i % j) else none
theorem o_mod : Op2R X (binaryOp .Mod) modD := o_int2 op_mod fun i j z e => by
  split at e
  · cases e; exact ⟨by assumption, rfl⟩
  · cases e
def fdivD : Op2 := int2 fun i j => if 0 < j ∧ j.natAbs.log2 < 9000 then some (i / j) else none
theorem o_fdiv : Op2R X (binaryOp .FloorDiv) fdivD := o_int2 op_fdivW fun i j z e => by
  split at e
  · cases e; exact ⟨by assumption, rfl⟩
  · cases e
def shrD : Op2 := int2 fun i j => if 0 ≤ j then some (i / 2 ^ j.toNat) else none
theorem o_shr : Op2R X (binaryOp .RShift) shrD := o_int2 op_shr fun i j z e => by
  split at e
  · cases e; exact ⟨by assumption, rfl⟩
  · cases e
def shlD : Op2 := int2 fun i j => if 0 ≤ j ∧ j ≤ 1000000 ∧ i.natAbs < 2 ^ 64 then some (i * 2 ^ j.toNat) else none
theorem o_shl : Op2R X (binaryOp .LShift) shlD := o_int2 op_shl fun i j z e => by
  split at e
  · cases e; exact ⟨by assumption, rfl⟩
  · cases e
def powD : Op2 := int2 fun i j => if 0 ≤ j ∧ j ≤ 1000000 ∧ i.natAbs < 2 ^ 64 then some (i ^ j.toNat) else none
theorem o_pow : Op2R X (binaryOp .Pow) powD := o_int2 op_pow fun i j z e => by
  split at e
  · cases e; exact ⟨by assumption, rfl⟩
  · cases e
def andD : Op2 := int2 fun i j => some (Builtin.bitAnd i j)
theorem o_and : Op2R X (binaryOp .BitAnd) andD := o_int2' op_and fun i j z e => by cases e; rfl
/-! ### times: numbers, a tuple so many times -/
def mulD : Op2 := fun x y M => match x, y with
  | .int i, .int j => if i.natAbs.log2 + j.natAbs.log2 < 1000000 ∨ i.natAbs < 2 ^ 64 ∨ j.natAbs < 2 ^ 64 then .ok (.int (i * j)) M else .err
  | .tup ds, .int k => if ds ≠ [] ∧ 2 ≤ k ∧ k ≤ 1000 ∧ ds.length ≤ 1000 then .ok (.tup (List.replicate k.toNat ds).flatten) M else .err
  | .str x, .int k => if 1 ≤ k ∧ k ≤ 1000 ∧ x.length ≤ 1000 then .ok (.str (Txt.mul x k)) M else .err
  | _, _ => .err
theorem Dens.rep {K : PySem.W.Frag} {ρ : Rho} {H : Hp} {ds : List D} {xs : List V} (h : Dens K ρ H ds xs) : ∀ n : Nat, Dens K ρ H (List.replicate n ds).flatten (List.replicate n xs).flatten
  | 0 => by simpa using dens_nil.mpr rfl
  | n + 1 => by
    rw [List.replicate_succ, List.replicate_succ, List.flatten_cons, List.flatten_cons]
    exact h.append (Dens.rep h n)
theorem mul_fits {x : Str} {k : Int} (h1 : 1 ≤ k) (h2 : k ≤ 1000) (h3 : x.length ≤ 1000) : MulOk x k := by
  refine ⟨?_, fun _ _ => ?_, fun _ _ => ?_⟩
  · rw [Bool.or_eq_false_iff]
    exact ⟨decide_eq_false (by omega), decide_eq_false (by omega)⟩
  · have e : (1000 : Int) ≤ (2 ^ 63 - 1) / k := Int.le_ediv_of_mul_le (by omega) (by omega)
    omega
  · have e : x.length * k.toNat ≤ 1000 * 1000 := Nat.mul_le_mul h3 (by omega)
    unfold Builtin.Str.tooLong
    exact decide_eq_false (by have : (1000 * 1000 : Nat) ≤ sizeLine := by decide
                              omega)
theorem op_mulS : OpR X (binaryOp .Mult) (fun x y H Q => ∃ (z : Str) (k : Int), x = .str z ∧ y = .int k ∧ MulOk z k ∧ Q (.str (Txt.mul z k)) H) := by
  intro pins s σ H x y v u Q I rx ry h
  obtain ⟨z, k, rfl, rfl, hk, q⟩ := h
  obtain ⟨t, rfl⟩ := rx
  obtain ⟨t', rfl⟩ := ry
  exact SB.mul hk fun t2 n => ⟨.str _, H, I.kept (t' := n) fun _ _ e => e, ⟨_, rfl⟩, q⟩
theorem o_mul : Op2R X (binaryOp .Mult) mulD := by
  intro ρ M H x y v w Q Rl dx dy h
  unfold mulD at h
  split at h
  · rw [den_int] at dx dy
    subst dx dy
    split at h
    · rename_i z
      rcases z with z | z | z
      · exact ⟨_, op_mulW, _, _, rfl, rfl, z, here Rl h (den_int.mpr rfl)⟩
      · exact ⟨_, op_mul, _, _, rfl, rfl, .inl ⟨by omega, by omega⟩, here Rl h (den_int.mpr rfl)⟩
      · exact ⟨_, op_mul, _, _, rfl, rfl, .inr ⟨by omega, by omega⟩, here Rl h (den_int.mpr rfl)⟩
    · exact h.elim
  · rename_i ds k
    obtain ⟨a, xs, rfl, hs, hd⟩ := den_tup.mp dx
    rw [den_int] at dy
    subst dy
    split at h
    · rename_i z
      obtain ⟨z1, z2, z3, z4⟩ := z
      refine ⟨_, op_repT, a, k, xs, rfl, rfl, hs, fun e => ?_, z2, z3, by rw [← hd.length]; exact z4, newT Rl h (hd.rep _)⟩
      subst e
      exact z1 (List.eq_nil_of_length_eq_zero hd.length)
    · exact h.elim
  · rename_i z k
    rw [den_str] at dx
    rw [den_int] at dy
    subst dx dy
    split at h
    · rename_i c
      exact ⟨_, op_mulS, z, k, rfl, rfl, mul_fits c.1 c.2.1 c.2.2, here Rl h (den_str.mpr rfl)⟩
    · exact h.elim
  · exact h.elim
theorem q_mul : Quiet2 mulD := by
  intro x y M c fs M' e
  unfold mulD at e
  (repeat' split at e) <;> cases e
/-! ### - in front -/
def negD : Op1 := fun x M => match x with
  | .int i => .ok (.int (-i)) M
  | _ => .err
theorem s_neg {W : WX} {a : Expr} {pos : Pos} {ma : ME} (ha : SE X W a ma) : SE X W (.UnaryOp .USub a pos) (m1 negD ma) := by
  refine pe_imp (pe_un un_neg ha) fun σ H Q h => ?_
  refine tm_bind (f := fun x _ M1 => negD x M1) h fun x M1 ρ1 H1 v env R1 E1 dx h => ?_
  unfold negD at h
  split at h
  · rw [show v = _ from den_int.mp dx]
    exact ⟨_, rfl, here R1 h (den_int.mpr rfl)⟩
  · exact h.elim
end
end Mi

end

section
/-! Mi, fourth part: comparisons, tests, and, or, not, one or the other. -/
namespace Mi
open PySem PySem.Spec PyProof.Rows L2

/-! ### data, as the library compares it -/
mutual
def py : D → PyData
  | .non => .none
  | .bl b => .bool b
  | .int i => .int i
  | .str x => .str x
  | .tup ds => .tuple (pys ds)
  | .lst ds => .list (pys ds)
  | .ty _ => .none
  | .adr _ => .none
  | .ref _ => .none
  | .dct _ _ => .none
  | .fn _ => .none
  | .exo _ _ _ _ => .none
def pys : List D → List PyData
  | [] => []
  | d :: ds => py d :: pys ds
end
mutual
/-- plain data, not deeper than so -/
def flat : D → Nat → Bool
  | .non, _ => true
  | .bl _, _ => true
  | .int _, _ => true
  | .str x, _ => PyData.strOk x
  | .tup ds, n => decide (0 < n) && flats ds (n - 1)
  | .lst ds, n => decide (0 < n) && flats ds (n - 1)
  | .ty _, _ => false
  | .adr _, _ => false
  | .ref _, _ => false
  | .dct _ _, _ => false
  | .fn _, _ => false
  | .exo _ _ _ _, _ => false
def flats : List D → Nat → Bool
  | [], _ => true
  | d :: ds, n => flat d n && flats ds n
end
mutual
theorem flat_can : ∀ (d : D) (n : Nat), flat d n = true → PyData.canLay0 (py d) = true ∧ PyData.depth (py d) ≤ n
  | .non, n, _ => by simp [py, PyData.canLay0, PyData.depth]
  | .bl _, n, _ => by simp [py, PyData.canLay0, PyData.depth]
  | .int _, n, _ => by simp [py, PyData.canLay0, PyData.depth]
  | .str x, n, h => by
    simp only [flat] at h
    simp [py, PyData.canLay0, PyData.depth, h]
  | .tup ds, n, h => by
    simp only [flat, Bool.and_eq_true, decide_eq_true_eq] at h
    have := flats_can ds (n - 1) h.2
    simp only [py, PyData.canLay0, PyData.depth]
    exact ⟨this.1, by omega⟩
  | .lst ds, n, h => by
    simp only [flat, Bool.and_eq_true, decide_eq_true_eq] at h
    have := flats_can ds (n - 1) h.2
    simp only [py, PyData.canLay0, PyData.depth]
    exact ⟨this.1, by omega⟩
  | .ty _, _, h => by simp [flat] at h
  | .adr _, _, h => by simp [flat] at h
  | .ref _, _, h => by simp [flat] at h
  | .dct _ _, _, h => by simp [flat] at h
  | .fn _, _, h => by simp [flat] at h
  | .exo _ _ _ _, _, h => by simp [flat] at h
theorem flats_can : ∀ (ds : List D) (n : Nat), flats ds n = true → PyData.canLayAll0 (pys ds) = true ∧ PyData.depthAll (pys ds) ≤ n
  | [], n, _ => by simp [pys, PyData.canLayAll0, PyData.depthAll]
  | d :: ds, n, h => by
    simp only [flats, Bool.and_eq_true] at h
    have h1 := flat_can d n h.1
    have h2 := flats_can ds n h.2
    simp only [pys, PyData.canLayAll0, PyData.depthAll, h1.1, h2.1, Bool.and_self, true_and]
    omega
end
theorem flat_shaped {d : D} (h : flat d 64 = true) : SeqAt.shaped (py d) = true := by
  obtain ⟨h1, h2⟩ := flat_can d 64 h
  unfold SeqAt.shaped
  rw [h1, decide_eq_true h2]
  rfl
section
variable {K : PySem.W.Frag} {ρ : Rho} {M : MH} {H : Hp}
mutual
theorem flat_dp : ∀ (d : D) (n : Nat) (v : V), flat d n = true → Den K ρ H d v → Dp K H v (py d)
  | .non, n, v, _, h => by rw [den_non] at h; subst h; unfold py; exact .non
  | .bl b, n, v, _, h => by rw [den_bl] at h; subst h; unfold py; exact .bl b
  | .int i, n, v, _, h => by rw [den_int] at h; subst h; unfold py; exact .int i
  | .str x, n, v, _, h => by rw [den_str] at h; subst h; unfold py; exact .str x
  | .tup ds, n, v, f, h => by
    simp only [flat, Bool.and_eq_true, decide_eq_true_eq] at f
    obtain ⟨a, xs, rfl, h1, h2⟩ := den_tup.mp h
    unfold py
    exact .tup h1 (flats_dp ds (n - 1) xs f.2 h2)
  | .lst ds, n, v, f, h => by
    simp only [flat, Bool.and_eq_true, decide_eq_true_eq] at f
    obtain ⟨a, xs, rfl, h1, h2⟩ := den_lst.mp h
    unfold py
    exact .lst h1.sq (flats_dp ds (n - 1) xs f.2 h2)
  | .ty _, _, _, f, _ => by simp [flat] at f
  | .adr _, _, _, f, _ => by simp [flat] at f
  | .ref _, _, _, f, _ => by simp [flat] at f
  | .dct _ _, _, _, f, _ => by simp [flat] at f
  | .fn _, _, _, f, _ => by simp [flat] at f
  | .exo _ _ _ _, _, _, f, _ => by simp [flat] at f
theorem flats_dp : ∀ (ds : List D) (n : Nat) (vs : List V), flats ds n = true → Dens K ρ H ds vs → DpAll K H vs (pys ds)
  | [], n, vs, _, h => by rw [dens_nil] at h; subst h; unfold pys; exact .nil
  | d :: ds, n, vs, f, h => by
    simp only [flats, Bool.and_eq_true] at f
    obtain ⟨v, r, rfl, h1, h2⟩ := dens_cons.mp h
    unfold pys
    exact .cons (flat_dp d n v f.1 h1) (flats_dp ds n r f.2 h2)
end
end
def deq (x y : D) : Bool := PyData.eqv (py x) (py y)
def deqs (xs ys : List D) : Bool := PyData.eqvAll (pys xs) (pys ys)

/-! ### == and != -/
def isStr : D → Bool
  | .str _ => true
  | _ => false
/-- texts, or plain data -/
def likeD (x y : D) : Bool := (isStr x && isStr y) || (flat x 64 && flat y 64)
def eqD : Op2 := fun x y M => if likeD x y then .ok (.bl (deq x y)) M else .err
def neD : Op2 := fun x y M => if likeD x y then .ok (.bl (!deq x y)) M else .err
theorem two_str {K : PySem.W.Frag} {ρ : Rho} {H : Hp} {x y : D} {v w : V} (hx : isStr x = true) (hy : isStr y = true) (dx : Den K ρ H x v) (dy : Den K ρ H y w) : ∃ a b, v = .str a ∧ w = .str b ∧ deq x y = decide (V.str a = V.str b) := by
  cases x <;> first
    | (cases hx; done)
    | skip
  cases y <;> first
    | (cases hy; done)
    | skip
  rename_i a b
  refine ⟨a, b, den_str.mp dx, den_str.mp dy, ?_⟩
  rw [show deq (.str a) (.str b) = (a == b) from rfl, Bool.eq_iff_iff, beq_iff_eq, decide_eq_true_iff, V.str.injEq]
theorem q_eq : Quiet2 eqD := by
  intro x y M c fs M' e
  unfold eqD at e
  split at e <;> cases e
theorem q_ne : Quiet2 neD := by
  intro x y M c fs M' e
  unfold neD at e
  split at e <;> cases e
section
variable {X : Cx}
theorem o_eq (c : Cf X) : Op2R X (compareOp .Eq) eqD := by
  intro ρ M H x y v w Q Rl dx dy h
  unfold eqD at h
  split at h
  · rename_i z
    unfold likeD at z
    simp only [Bool.or_eq_true, Bool.and_eq_true] at z
    rcases z with z | z
    · obtain ⟨a, b, rfl, rfl, e⟩ := two_str z.1 z.2 dx dy
      refine ⟨_, op_eq, rfl, ?_⟩
      rw [← e]
      exact here Rl h (den_bl.mpr rfl)
    exact ⟨_, op_eqD (by have := c.hu; omega), _, _, flat_dp x 64 v z.1 dx, flat_dp y 64 w z.2 dy, flat_shaped z.1, flat_shaped z.2, here Rl h (den_bl.mpr rfl)⟩
  · exact h.elim
theorem o_ne (c : Cf X) : Op2R X (compareOp .NotEq) neD := by
  intro ρ M H x y v w Q Rl dx dy h
  unfold neD at h
  split at h
  · rename_i z
    unfold likeD at z
    simp only [Bool.or_eq_true, Bool.and_eq_true] at z
    rcases z with z | z
    · obtain ⟨a, b, rfl, rfl, e⟩ := two_str z.1 z.2 dx dy
      refine ⟨_, op_ne, rfl, ?_⟩
      rw [← e]
      exact here Rl h (den_bl.mpr rfl)
    exact ⟨_, op_neD (by have := c.hu; omega), _, _, flat_dp x 64 v z.1 dx, flat_dp y 64 w z.2 dy, flat_shaped z.1, flat_shaped z.2, here Rl h (den_bl.mpr rfl)⟩
  · exact h.elim

/-! ### order of whole numbers -/
def cmpD (g : Int → Int → Bool) : Op2 := fun x y M => match x, y with
  | .int i, .int j => .ok (.bl (g i j)) M
  | _, _ => .err
theorem q_cmpD {g : Int → Int → Bool} : Quiet2 (cmpD g) := by
  intro x y M c fs M' e
  unfold cmpD at e
  split at e <;> cases e
theorem o_cmpD {f : Value → Value → Sem Value} {g : Int → Int → Bool} (o : OpR X f (rI0 fun i j => .bl (g i j))) : Op2R X f (cmpD g) := by
  intro ρ M H x y v w Q Rl dx dy h
  unfold cmpD at h
  split at h
  · rw [den_int] at dx dy
    subst dx dy
    exact ⟨_, o, _, _, rfl, rfl, here Rl h (den_bl.mpr rfl)⟩
  · exact h.elim
abbrev ltD : Op2 := cmpD fun i j => decide (i < j)
abbrev leD : Op2 := cmpD fun i j => decide (i ≤ j)
abbrev gtD : Op2 := cmpD fun i j => decide (j < i)
abbrev geD : Op2 := cmpD fun i j => decide (j ≤ i)
theorem o_lt : Op2R X (compareOp .Lt) ltD := o_cmpD op_lt
theorem o_le : Op2R X (compareOp .LtE) leD := o_cmpD op_le
theorem o_gt : Op2R X (compareOp .Gt) gtD := o_cmpD op_gt
theorem o_ge : Op2R X (compareOp .GtE) geD := o_cmpD op_ge

/-! ### is None, is not None; is True -/
def isNon : D → Bool
  | .non => true
  | _ => false
theorem isNon_v {K : PySem.W.Frag} {ρ : Rho} {H : Hp} {d : D} {v : V} (h : Den K ρ H d v) : decide (v = .non) = isNon d := by
  cases d <;> first
    | (rw [den_non] at h; subst h; rfl)
    | (rw [den_bl] at h; subst h; rfl)
    | (rw [den_int] at h; subst h; rfl)
    | (rw [den_str] at h; subst h; rfl)
    | (rw [den_ty] at h; subst h; rfl)
    | (rw [den_adr] at h; subst h; rfl)
    | (obtain ⟨a, o, rfl, _⟩ := den_ref.mp h; rfl)
    | (obtain ⟨a, xs, rfl, _⟩ := den_tup.mp h; rfl)
    | (obtain ⟨a, xs, rfl, _⟩ := den_lst.mp h; rfl)
    | (obtain ⟨a, xs, rfl, _⟩ := den_dct.mp h; rfl)
    | (obtain ⟨a, _, rfl⟩ := den_fn.mp h; rfl)
    | (obtain ⟨a, cv, d, rfl, _⟩ := den_exo.mp h; rfl)
def isD (neg : Bool) : Op2 := fun x y M => match x, y with
  | x, .non => .ok (.bl (isNon x != neg)) M
  | .bl a, .bl b => .ok (.bl ((a == b) != neg)) M
  | _, _ => .err
theorem q_is {neg : Bool} : Quiet2 (isD neg) := by
  intro x y M c fs M' e
  unfold isD at e
  split at e <;> cases e
end
end Mi

end

section
/-! Mi, fifth part: is, in, chains, truth, and, or, not, one or the other, items. -/
namespace Mi
open PySem PySem.Spec PyProof.Rows L2
section
variable {X : Cx} {W : WX}

theorem o_is : Op2R X (compareOp .Is) (isD false) := by
  intro ρ M H x y v w Q Rl dx dy h
  unfold isD at h
  split at h
  · rw [den_non] at dy
    subst dy
    refine ⟨_, op_isN, rfl, ?_⟩
    rw [isNon_v dx]
    have h' := here Rl h (den_bl.mpr rfl)
    simpa using h'
  · rw [den_bl] at dx dy
    subst dx dy
    refine ⟨_, op_is_bl, _, _, rfl, rfl, ?_⟩
    have h' := here Rl h (den_bl.mpr rfl)
    simpa [Bool.beq_eq_decide_eq] using h'
  · exact h.elim
theorem o_isNot : Op2R X (compareOp .IsNot) (isD true) := by
  intro ρ M H x y v w Q Rl dx dy h
  unfold isD at h
  split at h
  · rw [den_non] at dy
    subst dy
    refine ⟨_, op_notN, rfl, ?_⟩
    rw [isNon_v dx]
    have h' := here Rl h (den_bl.mpr rfl)
    simpa using h'
  · rw [den_bl] at dx dy
    subst dx dy
    refine ⟨_, op_isnot_bl, _, _, rfl, rfl, ?_⟩
    have h' := here Rl h (den_bl.mpr rfl)
    simpa [Bool.beq_eq_decide_eq] using h'
  · exact h.elim

/-! ### in, not in -/
def scal : D → Bool
  | .non => true
  | .bl _ => true
  | .int _ => true
  | .str _ => true
  | _ => false
/-- a plain one's own value -/
def sv : D → V
  | .bl b => .bl b
  | .int i => .int i
  | .str x => .str x
  | _ => .non
theorem scal_v {K : PySem.W.Frag} {ρ : Rho} {H : Hp} {d : D} {v : V} (s : scal d = true) (h : Den K ρ H d v) : v = sv d := by
  cases d <;> first
    | (rw [den_non] at h; exact h)
    | (rw [den_bl] at h; exact h)
    | (rw [den_int] at h; exact h)
    | (rw [den_str] at h; exact h)
    | (cases s)
theorem scal_flat {K : PySem.W.Frag} {ρ : Rho} {H : Hp} {d : D} {v : V} (s : scal d = true) (h : Den K ρ H d v) : flatV v = true := by
  rw [scal_v s h]
  cases d <;> rfl
theorem scal_eq {K : PySem.W.Frag} {ρ : Rho} {H : Hp} {d e : D} {v w : V} (s : scal d = true) (t : scal e = true) (h : Den K ρ H d v) (g : Den K ρ H e w) : eqV v w = deq d e := by
  rw [scal_v s h, scal_v t g]
  cases d <;> cases e <;> first
    | (cases s; done)
    | (cases t; done)
    | simp [sv, eqV, deq, py, PyData.eqv]
def keyOf : D → Option Key
  | .int i => some (.inl i)
  | .str x => some (.inr x)
  | _ => none
theorem keyOf_v {K : PySem.W.Frag} {ρ : Rho} {H : Hp} {d : D} {k : Key} {v : V} (e : keyOf d = some k) (h : Den K ρ H d v) : v = kV k := by
  cases d <;> first
    | (cases e; rw [den_int] at h; exact h)
    | (cases e; rw [den_str] at h; exact h)
    | (cases e)
def inLs (x : D) (ds : List D) : Bool := ds.any fun z => deq z x
def inD (neg : Bool) : Op2 := fun x y M => match y with
  | .lst ds => if flat x 64 && flat (.lst ds) 64 then .ok (.bl (inLs x ds != neg)) M else .err
  | .tup ds => if scal x && ds.all scal then .ok (.bl (inLs x ds != neg)) M else .err
  | .str z => match x with
    | .str t => match t.cps.toList with
      | [c] => .ok (.bl (decide (c ∈ z.cps.toList) != neg)) M
      | _ => .err
    | _ => .err
  | .dct ks _ => match keyOf x with
    | some k => .ok (.bl (ks.any (fun q => decide (q = k)) != neg)) M
    | none => .err
  | .ref l => match M[l]? with
    | some (.lst ds) => if flat x 64 && flat (.lst ds) 64 then .ok (.bl (inLs x ds != neg)) M else .err
    | some (.dct kvs) => match keyOf x with
      | some k => .ok (.bl (kvs.any (fun q => decide (q.1 = k)) != neg)) M
      | none => .err
    | _ => .err
  | _ => .err
theorem q_in {neg : Bool} : Quiet2 (inD neg) := by
  intro x y M c fs M' e
  unfold inD at e
  (repeat' split at e) <;> cases e
def rInDc (neg : Bool) : R2 := fun x y H Q => ∃ a o, y = .ref a ∧ DGet H a x o ∧ Q (.bl (if neg then !o.isSome else o.isSome)) H
theorem op_inDc (hu : X.A.units + 1 < cLine) : OpR X (compareOp .In) (rInDc false) := by
  intro pins s σ H x y v u Q I rx ry h
  obtain ⟨a, o, rfl, g, q⟩ := h
  cases ry
  exact d_in hu I g rx fun s' I' => ⟨.bl o.isSome, H, I', rfl, q⟩
theorem op_notInDc (hu : X.A.units + 1 < cLine) : OpR X (compareOp .NotIn) (rInDc true) := by
  intro pins s σ H x y v u Q I rx ry h
  obtain ⟨a, o, rfl, g, q⟩ := h
  cases ry
  exact d_notIn hu I g rx fun s' I' => ⟨.bl (!o.isSome), H, I', rfl, q⟩
theorem pys_any (ds : List D) (x : D) : ((pys ds).any fun z => PyData.eqv z (py x)) = inLs x ds := by
  induction ds with
  | nil => rfl
  | cons d ds ih =>
    show (((py d) :: pys ds).any fun z => PyData.eqv z (py x)) = _
    rw [List.any_cons, ih]
    rfl
theorem vals_any {K : PySem.W.Frag} {ρ : Rho} {H : Hp} {x : D} {v : V} (sx : scal x = true) (dx : Den K ρ H x v) : ∀ {ds : List D} {xs : List V}, ds.all scal = true → Dens K ρ H ds xs → (xs.any fun y => eqV y v) = inLs x ds ∧ xs.all flatV = true
  | [], xs, _, h => by rw [dens_nil] at h; subst h; exact ⟨rfl, rfl⟩
  | d :: ds, xs, a, h => by
    obtain ⟨w, r, rfl, h1, h2⟩ := dens_cons.mp h
    rw [List.all_cons, Bool.and_eq_true] at a
    obtain ⟨i1, i2⟩ := vals_any sx dx a.2 h2
    refine ⟨?_, ?_⟩
    · rw [List.any_cons, i1, scal_eq a.1 sx h1 dx]
      rfl
    · rw [List.all_cons, scal_flat a.1 h1, i2]
      rfl
theorem valV_some {κ : Type} [DecidableEq κ] (kvs : List (κ × V)) (k : κ) : (valV kvs k).isSome = (kvs.map (·.1)).any fun q => decide (q = k) := by
  rw [← valV_any, List.any_map]
  rfl
theorem str_one {t : Str} {c : Nat} (e : t.cps.toList = [c]) : t = ⟨#[c]⟩ := by
  cases t with
  | mk a =>
    have : a = #[c] := by
      cases a
      simpa using e
    rw [this]
theorem o_inX (c : Cf X) (neg : Bool) (f : Value → Value → Sem Value) (hL : OpR X f (fun x y H Q => ∃ d ds, Dp X.K H x d ∧ Dp X.K H y (.list ds) ∧ SeqAt.shaped d = true ∧ SeqAt.shaped (.list ds) = true ∧ Q (.bl ((ds.any fun z => PyData.eqv z d) != neg)) H))
    (hT : OpR X f (rIn X.K neg)) (hS : OpR X f (fun x y H Q => ∃ (c : Nat) (z : Str), x = .str ⟨#[c]⟩ ∧ y = .str z ∧ Q (.bl (decide (c ∈ z.cps.toList) != neg)) H)) (hD : OpR X f (rInDc neg)) : Op2R X f (inD neg) := by
  intro ρ M H x y v w Q Rl dx dy h
  have lists : ∀ {ds : List D} {a : Addr} {xs : List V}, SqL X.K H a xs → Dens X.K ρ H ds xs → flat x 64 = true → flat (.lst ds) 64 = true → Q (.bl (inLs x ds != neg)) H → ∃ r : R2, OpR X f r ∧ r v (.ref a) H Q := by
    intro ds a xs hs hd f1 f2 q
    refine ⟨_, hL, py x, pys ds, flat_dp x 64 v f1 dx, ?_, flat_shaped f1, ?_, ?_⟩
    · have z := f2
      simp only [flat, Bool.and_eq_true, decide_eq_true_eq] at z
      exact .lst hs (flats_dp ds 63 xs z.2 hd)
    · have z := flat_shaped f2
      unfold py at z
      exact z
    · rw [pys_any]
      exact q
  have dicts : ∀ {ks : List (Key × V)} {a : Addr} {k : Key}, Rd H a (.dK ks) → keyOf x = some k → Q (.bl ((ks.map (·.1)).any (fun q => decide (q = k)) != neg)) H → ∃ r : R2, OpR X f r ∧ r v (.ref a) H Q := by
    intro ks a k hH hk q
    have e := keyOf_v hk dx
    subst e
    refine ⟨_, hD, a, valV ks k, rfl, .inl ⟨ks, k, hH, rfl, rfl⟩, ?_⟩
    rw [valV_some]
    cases neg <;> simpa using q
  unfold inD at h
  split at h
  · obtain ⟨a, xs, rfl, hs, hd⟩ := den_lst.mp dy
    split at h
    · rename_i z
      rw [Bool.and_eq_true] at z
      exact lists hs.sq hd z.1 z.2 (here Rl h (den_bl.mpr rfl))
    · exact h.elim
  · obtain ⟨a, xs, rfl, hs, hd⟩ := den_tup.mp dy
    split at h
    · rename_i z
      rw [Bool.and_eq_true] at z
      obtain ⟨e1, e2⟩ := vals_any z.1 dx z.2 hd
      refine ⟨_, hT, a, xs, rfl, .inr hs, scal_flat z.1 dx, e2, ?_⟩
      have q := here Rl h (den_bl.mpr rfl)
      unfold inV
      rw [e1]
      cases neg <;> simpa using q
    · exact h.elim
  · rename_i z
    rw [den_str] at dy
    subst dy
    split at h
    · rename_i t
      rw [den_str] at dx
      subst dx
      split at h
      · rename_i ch e
        rw [str_one e]
        exact ⟨_, hS, ch, z, rfl, rfl, here Rl h (den_bl.mpr rfl)⟩
      · exact h.elim
    · exact h.elim
  · obtain ⟨a, kvs, rfl, hH, _, e, _⟩ := den_dct.mp dy
    split at h
    · rename_i k hk
      refine dicts hH hk ?_
      rw [e]
      exact here Rl h (den_bl.mpr rfl)
    · exact h.elim
  · rename_i l
    obtain ⟨a, o, rfl, hl, ho⟩ := den_ref.mp dy
    split at h
    · rename_i ds hm
      obtain ⟨b, xs, h1, h2, h3⟩ := Rl.obj l _ hm
      rw [hl] at h1
      cases h1
      have e := ho b rfl
      subst e
      split at h
      · rename_i z
        rw [Bool.and_eq_true] at z
        exact lists (SqL.of h2) h3 z.1 z.2 (here Rl h (den_bl.mpr rfl))
      · exact h.elim
    · rename_i kvs hm
      obtain ⟨b, ks, h1, h2, h3⟩ := Rl.obj l _ hm
      rw [hl] at h1
      cases h1
      have e := ho b rfl
      subst e
      split at h
      · rename_i k hk
        refine dicts (.inl h2) hk ?_
        have q := here Rl h (den_bl.mpr rfl)
        have ek : ∀ {ps : List (Key × D)} {qs : List (Key × V)}, DenP X.K ρ H ps qs → (qs.map (·.1)).any (fun q => decide (q = k)) = ps.any (fun q => decide (q.1 = k)) := by
          intro ps qs hp
          induction hp with
          | nil => rfl
          | cons r _ ih =>
            rw [List.map_cons, List.any_cons, List.any_cons, ih, r.1]
        rw [ek h3]
        exact q
      · exact h.elim
    · exact h.elim
  · exact h.elim
theorem b_xf (b : Bool) : (b != false) = b := by cases b <;> rfl
theorem b_xt (b : Bool) : (b != true) = !b := by cases b <;> rfl
theorem o_in (c : Cf X) : Op2R X (compareOp .In) (inD false) := by
  refine o_inX c false _ ?_ op_in_seq ?_ (op_inDc (by have := c.hu; omega))
  · intro pins s σ H x y v u Q I rx ry ⟨d, ds, h1, h2, h3, h4, q⟩
    exact op_inD (by have := c.hu; omega) pins s σ H x y v u Q I rx ry ⟨d, ds, h1, h2, h3, h4, by rw [b_xf] at q; exact q⟩
  · intro pins s σ H x y v u Q I rx ry ⟨ch, z, h1, h2, q⟩
    exact op_in_sign pins s σ H x y v u Q I rx ry ⟨ch, z, h1, h2, by rw [b_xf] at q; exact q⟩
theorem o_notIn (c : Cf X) : Op2R X (compareOp .NotIn) (inD true) := by
  refine o_inX c true _ ?_ op_notIn_seq ?_ (op_notInDc (by have := c.hu; omega))
  · intro pins s σ H x y v u Q I rx ry ⟨d, ds, h1, h2, h3, h4, q⟩
    exact op_notInD (by have := c.hu; omega) pins s σ H x y v u Q I rx ry ⟨d, ds, h1, h2, h3, h4, by rw [b_xt] at q; exact q⟩
  · intro pins s σ H x y v u Q I rx ry ⟨ch, z, h1, h2, q⟩
    exact op_notIn_sign pins s σ H x y v u Q I rx ry ⟨ch, z, h1, h2, by rw [b_xt] at q; exact q⟩
end
end Mi

end

section
/-! Mi, sixth part: tests, and, or, not, one or the other, chains, items, slices. -/
namespace Mi
open PySem PySem.Spec PyProof.Rows L2

/-! ### truth -/
def truD (M : MH) : D → Option Bool
  | .non => some false
  | .bl b => some b
  | .int i => some (i != 0)
  | .str x => if x.length ≤ lim then some ((x.length : Int) != 0) else none
  | .tup ds => some (!ds.isEmpty)
  | .lst ds => some (!ds.isEmpty)
  | .ref l => match M[l]? with
    | some (.lst ds) => some (!ds.isEmpty)
    | some (.dct kvs) => some (!kvs.isEmpty)
    | _ => none
  | _ => none
theorem dens_empty {K : PySem.W.Frag} {ρ : Rho} {H : Hp} {ds : List D} {xs : List V} (h : Dens K ρ H ds xs) : xs.isEmpty = ds.isEmpty := by
  cases ds with
  | nil => rw [dens_nil] at h; subst h; rfl
  | cons d ds => obtain ⟨v, r, rfl, _⟩ := dens_cons.mp h; rfl
theorem tru_v {K : PySem.W.Frag} {ρ : Rho} {M : MH} {H : Hp} (Rl : Rel K ρ M H) {d : D} {v : V} {b : Bool} (h : Den K ρ H d v) (t : truD M d = some b) : TruV K v H b := by
  cases d with
  | non => rw [den_non] at h; subst h; cases t; rfl
  | bl b => rw [den_bl] at h; subst h; cases t; rfl
  | int i => rw [den_int] at h; subst h; cases t; rfl
  | str x =>
    rw [den_str] at h
    subst h
    simp only [truD] at t
    split at t
    · rename_i z
      cases t
      exact ⟨lim_le z, rfl⟩
    · cases t
  | ty n => cases t
  | adr a => cases t
  | fn n => cases t
  | exo c hd ks ds => cases t
  | ref l =>
    obtain ⟨a, o, rfl, hl, ho⟩ := den_ref.mp h
    simp only [truD] at t
    split at t
    · rename_i ds hm
      obtain ⟨b, xs, h1, h2, h3⟩ := Rl.obj l _ hm
      rw [hl] at h1
      cases h1
      have e := ho b rfl
      subst e
      cases t
      exact .inl ⟨xs, SqL.of h2, by rw [dens_empty h3]⟩
    · rename_i kvs hm
      obtain ⟨b, ks, h1, h2, h3⟩ := Rl.obj l _ hm
      rw [hl] at h1
      cases h1
      have e := ho b rfl
      subst e
      cases t
      refine .inr (.inr ⟨ks, h2, ?_⟩)
      cases h3 <;> rfl
    · cases t
  | tup ds =>
    obtain ⟨a, xs, rfl, hs, hd⟩ := den_tup.mp h
    cases t
    exact .inr (.inl ⟨xs, hs, by rw [dens_empty hd]⟩)
  | lst ds =>
    obtain ⟨a, xs, rfl, hs, hd⟩ := den_lst.mp h
    cases t
    exact .inl ⟨xs, hs.sq, by rw [dens_empty hd]⟩
  | dct ks ds => cases t

def mTru (m : ME) : MT := fun env M => (m env M).bind fun d M1 => match truD M1 d with
  | some b => .ok b M1
  | none => .err
def mB (m : ME) : MT := fun env M => (m env M).bind fun d M1 => match d with
  | .bl b => .ok b M1
  | _ => .err
section
variable {X : Cx} {W : WX}
def SW (X : Cx) (W : WX) (e : Expr) (m : MT) : Prop := PW X e (tm X.K DnB W m)
theorem hereB {K : PySem.W.Frag} {ρ : Rho} {M : MH} {H : Hp} {W : Value → Option Addr → Hp → Prop} {Q : Bool → Hp → Prop} {b : Bool} (Rl : Rel K ρ M H) (h : Ok K ρ H DnB W Q (.ok b M)) : Q b H :=
  h ρ H b (Stp.refl (K := K) (M := M)) Rl rfl
/-- any expression but a comparison, and, or, not: by its value's truth -/
theorem t_tru {e : Expr} {m : ME} (h : SE X W e m) (he : ∀ whole, isTrue e X.env whole = (do let v ← whole; standAt e.pos; holding [v] (truthy v)) := by intro _; rfl) : ST X W e (mTru m) := by
  refine pt_imp (pt_truth h he) fun σ H Q q => ?_
  refine tm_bind (f := fun d _ M1 => match truD M1 d with | some b => .ok b M1 | none => .err) q fun d M1 ρ1 H1 v env R1 E1 dv q => ?_
  split at q
  · rename_i b e
    exact ⟨b, tru_v R1 dv e, hereB R1 q⟩
  · exact q.elim
theorem s_pc {op : CmpOp} {g : Op2} {a b : Expr} {ma mb : ME} (o : Op2R X (compareOp op) g) (q : Quiet2 g) (ha : SE X W a ma) (hb : SE X W b mb) : PC X op a b (tm X.K (DnD X.K) W (m2 g ma mb)) := by
  refine ⟨fun pins s σ H Q I h => ?_⟩
  refine binT ha hb (R := fun v w H2 => ∃ r : R2, OpR X (compareOp op) r ∧ r v w H2 Q) I ?_ fun v u s2 x y H2 I2 rx ry ⟨r, hr, hq⟩ => hr pins s2 σ H2 x y v u Q I2 rx ry hq
  refine tm_bind (f := fun x env M1 => (mb env M1).bind fun y M2 => g x y M2) h fun x M1 ρ1 H1 v env R1 E1 dx h => ?_
  exact ⟨ρ1, M1, env, R1, E1, h.bind fun y M2 ρ2 H2 w _ S R2 dy h => o ρ2 M2 H2 x y v w Q R2 (Den.step R1 S _ _ dx) dy (ok_quiet (q x y M2) h)⟩
theorem mB_t {m : ME} {σ : L2.St} {H : Hp} {Q : Bool → Hp → Prop} (q : tm X.K DnB W (mB m) σ H Q) : tm X.K (DnD X.K) W m σ H (fun x H1 => ∃ c, x = V.bl c ∧ Q c H1) := by
  refine tm_bind (f := fun d _ M1 => match d with | .bl b => .ok b M1 | _ => .err) q fun d M1 ρ1 H1 v env R1 E1 dv q => ?_
  split at q
  · rw [show v = _ from den_bl.mp dv]
    exact ⟨_, rfl, hereB R1 q⟩
  · exact q.elim
theorem t_cmp {op : CmpOp} {g : Op2} {a b : Expr} {pos : Pos} {ma mb : ME} (o : Op2R X (compareOp op) g) (q : Quiet2 g) (ha : SE X W a ma) (hb : SE X W b mb) (hm : behindInMarks op b = false) : ST X W (.Compare a [op] [b] pos) (mB (m2 g ma mb)) :=
  pt_imp (pt_cmp (s_pc o q ha hb) hm) fun _ _ _ h => mB_t h
def mNotT (m : MT) : MT := fun env M => (m env M).bind fun b M1 => .ok (!b) M1
theorem t_not {a : Expr} {pos : Pos} {m : MT} (h : ST X W a m) : ST X W (.UnaryOp .Not a pos) (mNotT m) := by
  refine pt_imp (pt_not h) fun σ H Q q => ?_
  refine tm_bind (f := fun b _ M1 => .ok (!b) M1) q fun b M1 ρ1 H1 v env R1 E1 dv q => ?_
  cases (show b = v from dv)
  exact hereB R1 q
def mAndT (a b : MT) : MT := fun env M => (a env M).bind fun c M1 => if c = true then b env M1 else .ok false M1
def mOrT (a b : MT) : MT := fun env M => (a env M).bind fun c M1 => if c = true then .ok true M1 else b env M1
theorem w_and1 {a : Expr} {pos : Pos} {m : MT} (h : ST X W a m) : SW X W (.BoolOp .And [a] pos) m := pw_and1 h
theorem w_or1 {a : Expr} {pos : Pos} {m : MT} (h : ST X W a m) : SW X W (.BoolOp .Or [a] pos) m := pw_or1 h
theorem pw_imp {e : Expr} {t t' : TT} (h : PW X e t) (i : ∀ σ H Q, t' σ H Q → t σ H Q) : PW X e t' := ⟨fun wh pins s σ H Q I q => h.run wh pins s σ H Q I (i σ H Q q)⟩
theorem w_and {a b : Expr} {rest : List Expr} {pos : Pos} {ma mb : MT} (ha : ST X W a ma) (hb : SW X W (.BoolOp .And (b :: rest) pos) mb) : SW X W (.BoolOp .And (a :: b :: rest) pos) (mAndT ma mb) := by
  refine pw_imp (pw_and ha hb) fun σ H Q q => ?_
  refine tm_bind (f := fun c env M1 => if c = true then mb env M1 else .ok false M1) q fun c M1 ρ1 H1 v env R1 E1 dv q => ?_
  cases (show c = v from dv)
  cases c with
  | true => exact ⟨ρ1, M1, env, R1, E1, q⟩
  | false => exact hereB R1 q
theorem w_or {a b : Expr} {rest : List Expr} {pos : Pos} {ma mb : MT} (ha : ST X W a ma) (hb : SW X W (.BoolOp .Or (b :: rest) pos) mb) : SW X W (.BoolOp .Or (a :: b :: rest) pos) (mOrT ma mb) := by
  refine pw_imp (pw_or ha hb) fun σ H Q q => ?_
  refine tm_bind (f := fun c env M1 => if c = true then .ok true M1 else mb env M1) q fun c M1 ρ1 H1 v env R1 E1 dv q => ?_
  cases (show c = v from dv)
  cases c with
  | true => exact hereB R1 q
  | false => exact ⟨ρ1, M1, env, R1, E1, q⟩
theorem t_w {e : Expr} {m : MT} (h : SW X W e m) : ST X W e m := PW.pt h

/-! ### the same as values -/
def mAnd (a b : ME) : ME := fun env M => (a env M).bind fun x M1 => match truD M1 x with
  | some true => b env M1
  | some false => .ok x M1
  | none => .err
def mOr (a b : ME) : ME := fun env M => (a env M).bind fun x M1 => match truD M1 x with
  | some true => .ok x M1
  | some false => b env M1
  | none => .err
theorem s_one {op : BoolOp} {a : Expr} {pos : Pos} {m : ME} (h : SE X W a m) : SE X W (.BoolOp op [a] pos) m := pe_one h
theorem s_and {a b : Expr} {rest : List Expr} {pos : Pos} {ma mb : ME} (ha : SE X W a ma) (hb : SE X W (.BoolOp .And (b :: rest) pos) mb) : SE X W (.BoolOp .And (a :: b :: rest) pos) (mAnd ma mb) := by
  refine pe_imp (pe_andT ha hb) fun σ H Q q => ?_
  refine tm_bind (f := fun x env M1 => match truD M1 x with | some true => mb env M1 | some false => .ok x M1 | none => .err) q fun x M1 ρ1 H1 v env R1 E1 dv q => ?_
  split at q
  · rename_i e
    exact ⟨true, tru_v R1 dv e, ⟨ρ1, M1, env, R1, E1, q⟩⟩
  · rename_i e
    exact ⟨false, tru_v R1 dv e, here R1 q dv⟩
  · exact q.elim
theorem s_or {a b : Expr} {rest : List Expr} {pos : Pos} {ma mb : ME} (ha : SE X W a ma) (hb : SE X W (.BoolOp .Or (b :: rest) pos) mb) : SE X W (.BoolOp .Or (a :: b :: rest) pos) (mOr ma mb) := by
  refine pe_imp (pe_orT ha hb) fun σ H Q q => ?_
  refine tm_bind (f := fun x env M1 => match truD M1 x with | some true => .ok x M1 | some false => mb env M1 | none => .err) q fun x M1 ρ1 H1 v env R1 E1 dv q => ?_
  split at q
  · rename_i e
    exact ⟨true, tru_v R1 dv e, here R1 q dv⟩
  · rename_i e
    exact ⟨false, tru_v R1 dv e, ⟨ρ1, M1, env, R1, E1, q⟩⟩
  · exact q.elim
def notD : Op1 := fun x M => match truD M x with
  | some b => .ok (.bl (!b)) M
  | none => .err
theorem s_not {a : Expr} {pos : Pos} {m : ME} (h : SE X W a m) : SE X W (.UnaryOp .Not a pos) (m1 notD m) := by
  refine pe_imp (pe_notT h) fun σ H Q q => ?_
  refine tm_bind (f := fun x _ M1 => notD x M1) q fun x M1 ρ1 H1 v env R1 E1 dv q => ?_
  unfold notD at q
  split at q
  · rename_i b e
    exact ⟨b, tru_v R1 dv e, here R1 q (den_bl.mpr rfl)⟩
  · exact q.elim
def mIf (c : MT) (a b : ME) : ME := fun env M => (c env M).bind fun k M1 => if k = true then a env M1 else b env M1
theorem s_if {c a b : Expr} {pos : Pos} {mc : MT} {ma mb : ME} (hc : ST X W c mc) (ha : SE X W a ma) (hb : SE X W b mb) : SE X W (.IfExp c a b pos) (mIf mc ma mb) := by
  refine pe_imp (pe_ifExp hc ha hb) fun σ H Q q => ?_
  refine tm_bind (f := fun k env M1 => if k = true then ma env M1 else mb env M1) q fun k M1 ρ1 H1 v env R1 E1 dv q => ?_
  cases (show k = v from dv)
  cases k with
  | true => exact ⟨ρ1, M1, env, R1, E1, q⟩
  | false => exact ⟨ρ1, M1, env, R1, E1, q⟩
/-! ### a <= b <= c, of whole numbers -/
def chainD (g g' : Int → Int → Bool) (c : ME) (env : En) (x y : D) (M : MH) : R D := match x, y with
  | .int i, .int j => if g i j = true then (c env M).bind fun z M3 => match z with
      | .int k => .ok (.bl (g' j k)) M3
      | _ => .err
    else .ok (.bl false) M
  | _, _ => .err
def mChain (g g' : Int → Int → Bool) (a b c : ME) : ME := fun env M => (a env M).bind fun x M1 => (b env M1).bind fun y M2 => chainD g g' c env x y M2
theorem chain_o {g g' : Int → Int → Bool} {c : Expr} {mc : ME} {σ : L2.St} {Q : VK} {ρ : Rho} {M : MH} {H : Hp} {env : En} {x y : D} {v w : V} (Rl : Rel X.K ρ M H) (E : EnR X.K ρ H env σ) (dx : Den X.K ρ H x v) (dy : Den X.K ρ H y w)
    (h : Ok X.K ρ H (DnD X.K) (fun c d H' => W c d σ H') Q (chainD g g' mc env x y M)) : rI0 (fun i j => .bl (g i j)) v w H fun z H3 => ∃ k, z = .bl k ∧ (if k = true then tm X.K (DnD X.K) W mc σ H3 fun w' H4 => rI0 (fun i j => .bl (g' i j)) w w' H4 Q else Q (.bl false) H3) := by
  unfold chainD at h
  split at h
  · rename_i i j
    rw [den_int] at dx dy
    subst dx dy
    refine ⟨i, j, rfl, rfl, g i j, rfl, ?_⟩
    split at h
    · rename_i z
      rw [z, if_pos rfl]
      refine ⟨ρ, M, env, Rl, E, h.bind fun z M3 ρ3 H3 u _ S3 R3 dz h => ?_⟩
      cases z <;> first
        | exact h.elim
        | (rw [show u = _ from den_int.mp dz]; exact ⟨_, _, rfl, rfl, here R3 h (den_bl.mpr rfl)⟩)
    · rename_i z
      rw [show g i j = false by simpa using z, if_neg (by decide)]
      exact here Rl h (den_bl.mpr rfl)
  · exact h.elim
theorem chain_t {g g' : Int → Int → Bool} {ma mb mc : ME} {σ : L2.St} {H : Hp} {Q : VK} (h : tm X.K (DnD X.K) W (mChain g g' ma mb mc) σ H Q) :
    tChain (rI0 fun i j => .bl (g i j)) (rI0 fun i j => .bl (g' i j)) (tm X.K (DnD X.K) W ma) (tm X.K (DnD X.K) W mb) (tm X.K (DnD X.K) W mc) σ H Q := by
  refine tm_bind (f := fun x env M1 => (mb env M1).bind fun y M2 => chainD g g' mc env x y M2) h fun x M1 ρ1 H1 v env R1 E1 dx h => ?_
  exact ⟨ρ1, M1, env, R1, E1, h.bind fun y M2 ρ2 H2 w _ S R2 dy h => chain_o (c := .Constant .none 0 ⟨0, 0, 0, 0⟩) R2 (E1.step R1 S) (Den.step R1 S _ _ dx) dy h⟩
theorem s_chain {op op' : CmpOp} {g g' : Int → Int → Bool} {a b c : Expr} {pos : Pos} {ma mb mc : ME} (o : OpR X (compareOp op) (rI0 fun i j => .bl (g i j))) (o' : OpR X (compareOp op') (rI0 fun i j => .bl (g' i j))) (ha : SE X W a ma) (hb : SE X W b mb) (hc : SE X W c mc)
    (hm : lastMarks [op, op'] [b, c] = false := by with_unfolding_all rfl) : SE X W (.Compare a [op, op'] [b, c] pos) (mChain g g' ma mb mc) :=
  pe_imp (pe_chain o o' ha hb hc hm) fun _ _ _ h => chain_t h
theorem t_chain {op op' : CmpOp} {g g' : Int → Int → Bool} {a b c : Expr} {pos : Pos} {ma mb mc : ME} (o : OpR X (compareOp op) (rI0 fun i j => .bl (g i j))) (o' : OpR X (compareOp op') (rI0 fun i j => .bl (g' i j))) (ha : SE X W a ma) (hb : SE X W b mb) (hc : SE X W c mc)
    (hm : lastMarks [op, op'] [b, c] = false := by with_unfolding_all rfl) : ST X W (.Compare a [op, op'] [b, c] pos) (mB (mChain g g' ma mb mc)) := by
  refine pt_imp (pt_chain o o' ha hb hc hm) fun σ H Q h => ?_
  exact chain_t (Q := fun x H1 => ∃ c, x = V.bl c ∧ Q c H1) (mB_t h)

/-! ### items -/
def dctGet (ks : List Key) (ds : List D) (k : Key) : Option D := ((ks.zip ds).find? fun p => decide (p.1 = k)).map (·.2)
def ixD : Op2 := fun x y M => match x with
  | .tup ds => match y with
    | .int i => match atI ds i with
      | some d => .ok d M
      | none => .err
    | _ => .err
  | .lst ds => match y with
    | .int i => match atI ds i with
      | some d => .ok d M
      | none => .err
    | _ => .err
  | .str z => match y with
    | .int i => match atI z.cps.toList i with
      | some c => if z.length ≤ lim then .ok (.str ⟨#[c]⟩) M else .err
      | none => .err
    | _ => .err
  | .dct ks ds => match keyOf y with
    | some k => match dctGet ks ds k with
      | some d => .ok d M
      | none => .err
    | none => .err
  | .ref l => match M[l]? with
    | some (.lst ds) => match y with
      | .int i => match atI ds i with
        | some d => .ok d M
        | none => .err
      | _ => .err
    | some (.dct kvs) => match keyOf y with
      | some k => match (kvs.find? fun p => decide (p.1 = k)).map (·.2) with
        | some d => .ok d M
        | none => .err
      | none => .err
    | _ => .err
  | _ => .err
theorem q_ix : Quiet2 ixD := by
  intro x y M c fs M' e
  unfold ixD at e
  (repeat' split at e) <;> cases e
theorem atI_den {K : PySem.W.Frag} {ρ : Rho} {H : Hp} {ds : List D} {xs : List V} {i : Int} {d : D} (h : Dens K ρ H ds xs) (e : atI ds i = some d) : ∃ v, atI xs i = some v ∧ Den K ρ H d v := by
  unfold atI at e ⊢
  rw [← h.length]
  cases q : ixN ds.length i with
  | none => rw [q] at e; cases e
  | some j =>
    rw [q] at e
    exact h.get e
theorem denP_get {κ : Type} [DecidableEq κ] {K : PySem.W.Frag} {ρ : Rho} {H : Hp} {ps : List (κ × D)} {qs : List (κ × V)} (h : DenP K ρ H ps qs) {k : κ} {d : D} (e : (ps.find? fun p => decide (p.1 = k)).map (·.2) = some d) : ∃ v, valV qs k = some v ∧ Den K ρ H d v := by
  induction h with
  | nil => cases e
  | @cons p q ps qs r _ ih =>
    unfold valV
    rw [List.find?_cons] at e ⊢
    rw [← r.1]
    by_cases z : p.1 = k
    · rw [decide_eq_true z] at e ⊢
      cases e
      exact ⟨_, rfl, r.2⟩
    · rw [decide_eq_false z] at e ⊢
      exact ih e
theorem denP_zip {K : PySem.W.Frag} {ρ : Rho} {H : Hp} : ∀ {ds : List D} {kvs : List (Key × V)}, Dens K ρ H ds (kvs.map (·.2)) → DenP K ρ H ((kvs.map (·.1)).zip ds) kvs
  | [], kvs, h => by
    rw [dens_nil] at h
    have e : kvs = [] := by simpa using h
    subst e
    exact .nil
  | d :: ds, kvs, h => by
    obtain ⟨v, r, e, h1, h2⟩ := dens_cons.mp h
    cases kvs with
    | nil => cases e
    | cons p kvs =>
      simp only [List.map_cons, List.cons.injEq] at e
      obtain ⟨e1, e2⟩ := e
      subst e1 e2
      exact .cons ⟨rfl, h1⟩ (denP_zip h2)
/-- an item's rule, by values -/
def IxD (X : Cx) (a b : Expr) (v w : V) (H : Hp) (Q : VK) : Prop := ∀ (pins : List (Addr × Obj)) (s : Shared) (σ : L2.St) (u z : Value), Inv X pins σ H s → RelV v u → RelV w z → (∀ o i, subscripted b false o i = operate [o, i] (getItem o i)) → wpAny (model X.prog X.w) X.A (subscriptTail a b u z) (EP X pins σ Q) X.xe s
theorem ixd_of {a b : Expr} {r : R2} {v w : V} {H : Hp} {Q : VK} (hr : IxR X r) (h : r v w H Q) : IxD X a b v w H Q := fun pins s σ u z I rv rw hs => hr a b pins s σ H v w u z Q I rv rw h (hs _ _)
theorem ixd_dict {a b : Expr} {p : Addr} {w : V} {x : V} {H : Hp} {Q : VK} (hu : X.A.units + 1 < cLine) (g : DGet H p w (some x)) (q : Q x H) : IxD X a b (.ref p) w H Q := fun pins s σ u z I rv rw hs => by
  obtain rfl : u = Value.ref p := rv
  exact tail_any (dict_typeIs I g) PySem.F.slot_dict_getitem.lookup (d_getItem hu I g rw fun w' s3 I3 rw' => ⟨x, H, I3, rw', q⟩) (hs _ _)
theorem o_ix (c : Cf X) {a b : Expr} {ρ : Rho} {M : MH} {H : Hp} {x y : D} {v w : V} {Q : VK} (R2 : Rel X.K ρ M H) (dx : Den X.K ρ H x v) (dy : Den X.K ρ H y w) (h : ROk X.K ρ H Q (ixD x y M)) : IxD X a b v w H Q := by
  have hu : X.A.units + 1 < cLine := by have := c.hu; omega
  unfold ixD at h
  split at h
  · obtain ⟨p, xs, rfl, hs, hd⟩ := den_tup.mp dx
    split at h
    · rename_i i
      rw [den_int] at dy
      subst dy
      split at h
      · rename_i d e
        obtain ⟨v, e2, dv⟩ := atI_den hd e
        exact ixd_of ix_tup ⟨p, xs, i, v, rfl, rfl, hs, e2, here R2 h dv⟩
      · exact h.elim
    · exact h.elim
  · obtain ⟨p, xs, rfl, hs, hd⟩ := den_lst.mp dx
    split at h
    · rename_i i
      rw [den_int] at dy
      subst dy
      split at h
      · rename_i d e
        obtain ⟨v, e2, dv⟩ := atI_den hd e
        exact ixd_of ix_list ⟨p, xs, i, v, rfl, rfl, hs.sq, e2, here R2 h dv⟩
      · exact h.elim
    · exact h.elim
  · rename_i z
    rw [den_str] at dx
    subst dx
    split at h
    · rename_i i
      rw [den_int] at dy
      subst dy
      split at h
      · rename_i ch e
        split at h
        · rename_i zl
          exact ixd_of ix_str ⟨z, i, ch, rfl, rfl, lim_le zl, e, here R2 h (den_str.mpr rfl)⟩
        · exact h.elim
      · exact h.elim
    · exact h.elim
  · rename_i ks ds
    obtain ⟨p, kvs, rfl, hH, _, e, hd⟩ := den_dct.mp dx
    split at h
    · rename_i k hk
      split at h
      · rename_i d hg
        unfold dctGet at hg
        rw [← e] at hg
        obtain ⟨v, e2, dv⟩ := denP_get (denP_zip hd) hg
        rw [keyOf_v hk dy]
        exact ixd_dict hu (e2 ▸ .inl ⟨kvs, k, hH, rfl, rfl⟩) (here R2 h dv)
      · exact h.elim
    · exact h.elim
  · rename_i l
    obtain ⟨p, o, rfl, hl, ho⟩ := den_ref.mp dx
    split at h
    · rename_i ds hm
      obtain ⟨b, xs, h1, h2, h3⟩ := R2.obj l _ hm
      rw [hl] at h1
      cases h1
      have e := ho b rfl
      subst e
      split at h
      · rename_i i
        rw [den_int] at dy
        subst dy
        split at h
        · rename_i d e
          obtain ⟨v, e2, dv⟩ := atI_den h3 e
          exact ixd_of ix_list ⟨_, xs, i, v, rfl, rfl, SqL.of h2, e2, here R2 h dv⟩
        · exact h.elim
      · exact h.elim
    · rename_i kvs hm
      obtain ⟨b, ks, h1, h2, h3⟩ := R2.obj l _ hm
      rw [hl] at h1
      cases h1
      have e := ho b rfl
      subst e
      split at h
      · rename_i k hk
        split at h
        · rename_i d hg
          obtain ⟨v, e2, dv⟩ := denP_get h3 hg
          rw [keyOf_v hk dy]
          exact ixd_dict hu (e2 ▸ DGet.k h2) (here R2 h dv)
        · exact h.elim
      · exact h.elim
    · exact h.elim
  · exact h.elim
theorem s_ix (c : Cf X) {a b : Expr} {pos : Pos} {ma mb : ME} (ha : SE X W a ma) (hb : SE X W b mb) (hs : ∀ o i, subscripted b false o i = operate [o, i] (getItem o i) := by intro _ _; rfl) : SE X W (.Subscript a b pos) (m2 ixD ma mb) := by
  refine ⟨fun pins s σ H Q I h => ?_⟩
  refine Subscript_ (binT ha hb (R := fun v w H2 => IxD X a b v w H2 Q) I ?_ fun v u s2 x y H2 I2 rx ry hr => hr pins s2 σ v u I2 rx ry hs)
  refine tm_bind (f := fun x env M1 => (mb env M1).bind fun y M2 => ixD x y M2) h fun x M1 ρ1 H1 v env R1 E1 dx h => ?_
  exact ⟨ρ1, M1, env, R1, E1, h.bind fun y M2 ρ2 H2 w _ S R2 dy h => o_ix c R2 (Den.step R1 S _ _ dx) dy (ok_quiet (q_ix x y M2) h)⟩
end
end Mi

end

section
/-! Mi, seventh part: displays, cells made and written, what is walked, comprehensions. -/
namespace Mi
open PySem PySem.Spec PyProof.Rows L2
section
variable {K : PySem.W.Frag} {ρ : Rho} {M : MH} {H : Hp}

/-! ### cells -/
/-- a cell is written -/
theorem Stp.write {l : Nat} {a : Addr} {o : HO} (hl : ρ.c[l]? = some (some a)) : Stp ρ H ρ (upd H a o) :=
  ⟨fun _ _ h => .inl h, fun _ h => .inl h, fun b u h n => by
    have ne : b ≠ a := fun e => n (e ▸ mem_of_get hl)
    rw [upd_ne ne]
    exact h, rfl⟩
theorem Rel.write (Rl : Rel K ρ M H) {l : Nat} {a : Addr} {o : HO} {mo : MO} (hl : ρ.c[l]? = some (some a)) (new : ObjD K ρ (upd H a o) l mo) : Rel K ρ (M.set l mo) (upd H a o) where
  len := by rw [List.length_set]; exact Rl.len
  hid := fun b m => by
    obtain ⟨n, xs, e⟩ := Rl.hid b m
    exact ⟨n, xs, (Stp.write (ρ := ρ) (H := H) (o := o) hl).keep b _ e n⟩
  inj := Rl.inj
  obj := fun j u e => by
    by_cases q : l = j
    · subst q
      have hlen : l < M.length := by
        rw [← Rl.len]
        exact (List.getElem?_eq_some_iff.mp hl).1
      rw [List.getElem?_set_self hlen] at e
      cases e
      exact new
    · rw [List.getElem?_set_ne q] at e
      have S : Stp ρ H ρ (upd H a o) := Stp.write hl
      have x := Rl.obj j u e
      have ne : ∀ b, ρ.c[j]? = some (some b) → b ≠ a := fun b h1 e => by
        subst e
        exact q (Rl.inj l j b hl h1)
      cases u with
      | lst ds =>
        obtain ⟨b, xs, h1, h2, h3⟩ := x
        exact ⟨b, xs, h1, by rw [upd_ne (ne b h1)]; exact h2, Dens.step Rl S _ _ h3⟩
      | dct kvs =>
        obtain ⟨b, xs, h1, h2, h3⟩ := x
        exact ⟨b, xs, h1, by rw [upd_ne (ne b h1)]; exact h2, DenP.step Rl S h3⟩
      | ins C fs =>
        obtain ⟨b, Ca, dx, gs, h1, cn, h2, h3⟩ := x
        exact ⟨b, Ca, dx, gs, h1, cn, by rw [upd_ne (ne b h1)]; exact h2, DenP.step Rl S h3⟩
      | gone => exact x
/-- a new cell -/
theorem get_last {α : Type} {xs : List α} {a : α} : (xs ++ [a])[xs.length]? = some a := by
  rw [List.getElem?_append_right (Nat.le_refl _), Nat.sub_self]
  rfl
theorem get_front {α : Type} {xs : List α} {a b : α} {i : Nat} (h : xs[i]? = some b) : (xs ++ [a])[i]? = some b := by
  rw [List.getElem?_append_left (List.getElem?_eq_some_iff.mp h).1]
  exact h
/-- one cell more -/
def Rho.add (ρ : Rho) (p : Addr) : Rho := ⟨ρ.c ++ [some p], ρ.h⟩
theorem Stp.cell {p : Addr} {o : HO} (hp : H p = none) : Stp ρ H (ρ.add p) (upd H p o) :=
  ⟨fun _ _ h => .inl (get_front h), fun a h => by
    rcases List.mem_append.mp h with h | h
    · exact .inl h
    · have e : some a = some p := by simpa using h
      cases e
      exact .inr hp, fun a u h _ => by rw [upd_ne (ne_of_none h hp)]; exact h, rfl⟩
theorem Rel.cell (Rl : Rel K ρ M H) {p : Addr} {o : HO} {mo : MO} (hp : H p = none) (new : ObjD K (ρ.add p) (upd H p o) M.length mo) : Rel K (ρ.add p) (M ++ [mo]) (upd H p o) where
  len := by
    show (ρ.c ++ [some p]).length = _
    rw [List.length_append, List.length_append, Rl.len]; rfl
  hid := fun a m => by
    obtain ⟨n, xs, e⟩ := Rl.hid a m
    have ne := ne_of_none e hp
    refine ⟨fun z => ?_, xs, by rw [upd_ne ne]; exact e⟩
    rcases List.mem_append.mp z with z | z
    · exact n z
    · exact ne (Option.some.inj (List.mem_singleton.mp z))
  inj := fun i j a h1 h2 => by
    have h1 : (ρ.c ++ [some p])[i]? = some (some a) := h1
    have h2 : (ρ.c ++ [some p])[j]? = some (some a) := h2
    have hf := Rl.fresh hp
    have side : ∀ k : Nat, (ρ.c ++ [some p])[k]? = some (some a) → ρ.c[k]? = some (some a) ∨ (k = ρ.c.length ∧ a = p) := fun k h => by
      by_cases hk : k < ρ.c.length
      · rw [List.getElem?_append_left hk] at h
        exact .inl h
      · have hk2 := (List.getElem?_eq_some_iff.mp h).1
        rw [List.length_append] at hk2
        have hk3 : k = ρ.c.length := by
          have : [some p].length = 1 := rfl
          omega
        subst hk3
        rw [get_last] at h
        cases h
        exact .inr ⟨rfl, rfl⟩
    rcases side i h1 with q | ⟨q, e⟩ <;> rcases side j h2 with r | ⟨r, f⟩
    · exact Rl.inj i j a q r
    · subst f; exact absurd (mem_of_get q) hf
    · subst e; exact absurd (mem_of_get r) hf
    · rw [q, r]
  obj := fun j u e => by
    have S : Stp ρ H (ρ.add p) (upd H p o) := Stp.cell hp
    by_cases hj : j < M.length
    · rw [List.getElem?_append_left hj] at e
      have x := Rl.obj j u e
      cases u with
      | lst ds =>
        obtain ⟨b, xs, h1, h2, h3⟩ := x
        exact ⟨b, xs, get_front h1, by rw [upd_ne (ne_of_none h2 hp)]; exact h2, Dens.step Rl S _ _ h3⟩
      | dct kvs =>
        obtain ⟨b, xs, h1, h2, h3⟩ := x
        exact ⟨b, xs, get_front h1, by rw [upd_ne (ne_of_none h2 hp)]; exact h2, DenP.step Rl S h3⟩
      | ins C fs =>
        obtain ⟨b, Ca, dx, gs, h1, cn, h2, h3⟩ := x
        exact ⟨b, Ca, dx, gs, get_front h1, cn, by rw [upd_ne (ne_of_none h2 hp)]; exact h2, DenP.step Rl S h3⟩
      | gone => exact get_front x
    · have hj2 := (List.getElem?_eq_some_iff.mp e).1
      rw [List.length_append] at hj2
      have hj3 : j = M.length := by
        have : [mo].length = 1 := rfl
        omega
      subst hj3
      rw [get_last] at e
      cases e
      exact new
theorem Rel.lastAt (Rl : Rel K ρ M H) {p : Addr} : (ρ.add p).c[M.length]? = some (some p) := by
  show (ρ.c ++ [some p])[M.length]? = _
  rw [← Rl.len]
  exact get_last
theorem newC {W : Value → Option Addr → Hp → Prop} {Q : VK} {ds : List D} {xs : List V} (Rl : Rel K ρ M H) (h : Ok K ρ H (DnD K) W Q (.ok (.ref M.length) (M ++ [.lst ds]))) (e : Dens K ρ H ds xs) : ∀ p, H p = none → Q (.ref p) (upd H p (.lst xs)) := fun p hp => by
  have S : Stp ρ H (ρ.add p) (upd H p (.lst xs)) := Stp.cell hp
  exact h _ _ _ S (Rl.cell hp ⟨p, xs, Rl.lastAt, upd_same, Dens.step Rl S _ _ e⟩) (den_ref.mpr ⟨p, some p, rfl, Rl.lastAt, fun b e => Option.some.inj e.symm⟩)
end

section
variable {X : Cx} {W : WX}
/-! ### displays -/
def tupD : OpN := fun ds M => if ds.length ≤ lim then .ok (.tup ds) M else .err
def lstD : OpN := fun ds M => if ds.length ≤ lim then .ok (.lst ds) M else .err
/-- a list that may change -/
def celD : OpN := fun ds M => if ds.length ≤ lim then .ok (.ref M.length) (M ++ [.lst ds]) else .err
theorem s_tup {es : List Expr} {k : Nat} {pos : Pos} {ma : MA} (h : SA X W es ma) : SE X W (.Tuple es k pos) (mN tupD ma) := by
  refine pe_imp (pe_tup h) fun σ H Q q => ?_
  refine tm_bind (f := fun ds _ M1 => tupD ds M1) q fun ds M1 ρ1 H1 vs env R1 E1 dv q => ?_
  unfold tupD at q
  split at q
  · rename_i z
    exact ⟨by rw [← Dens.length dv]; exact lim_le z, newT R1 q dv⟩
  · exact q.elim
theorem s_lst {es : List Expr} {pos : Pos} {ma : MA} (h : SA X W es ma) : SE X W (.List es pos) (mN lstD ma) := by
  refine pe_imp (pe_lst h) fun σ H Q q => ?_
  refine tm_bind (f := fun ds _ M1 => lstD ds M1) q fun ds M1 ρ1 H1 vs env R1 E1 dv q => ?_
  unfold lstD at q
  split at q
  · rename_i z
    exact ⟨by rw [← Dens.length dv]; exact lim_le z, newL R1 q dv⟩
  · exact q.elim
theorem s_cel {es : List Expr} {pos : Pos} {ma : MA} (h : SA X W es ma) : SE X W (.List es pos) (mN celD ma) := by
  refine pe_imp (pe_lst h) fun σ H Q q => ?_
  refine tm_bind (f := fun ds _ M1 => celD ds M1) q fun ds M1 ρ1 H1 vs env R1 E1 dv q => ?_
  unfold celD at q
  split at q
  · rename_i z
    exact ⟨by rw [← Dens.length dv]; exact lim_le z, newC R1 q dv⟩
  · exact q.elim

/-! ### what is walked -/
/-- what is locked stays so -/
def Fk (H H' : Hp) : Prop := ∀ (a : Addr) (o : Obj) (u : HO), H a = some (.frz o u) → H' a = some (.frz o u)
theorem Stp.fk {K : PySem.W.Frag} {ρ ρ' : Rho} {M : MH} {H H' : Hp} (S : Stp ρ H ρ' H') (R : Rel K ρ M H) : Fk H H' := fun a o u h => S.keep a _ h (R.notFrz h)
/-- J gives the items, one a turn, whatever is done to cells meanwhile -/
structure Wk (K : PySem.W.Frag) (ρ1 : Rho) (H1 : Hp) (J : It) (items : List D) : Prop where
  goes : ∀ (i : Nat) ρ' M' H', i < items.length → Rel K ρ' M' H' → Tr ρ1 H1 ρ' H' → Fk H1 H' → J.go i H'
  stops : ∀ ρ' M' H', Rel K ρ' M' H' → Tr ρ1 H1 ρ' H' → Fk H1 H' → J.stop items.length H'
  yields : ∀ (i : Nat) ρ' M' H' x H'' (d : D), items[i]? = some d → Rel K ρ' M' H' → Tr ρ1 H1 ρ' H' → Fk H1 H' → J.yld i H' x H'' → Rel K ρ' M' H'' ∧ Stp ρ' H' ρ' H'' ∧ Den K ρ' H'' d x
abbrev DnI (K : PySem.W.Frag) : Rho → Hp → List D → It → Prop := fun ρ H ds J => Wk K ρ H J ds
def SI (X : Cx) (W : WX) (tg e : Expr) (m : MA) : Prop := PI X tg e (tm X.K (DnI X.K) W m)
def signs (x : Str) : List D := x.cps.toList.map fun c => .str ⟨#[c]⟩
def itemsD : D → MH → R (List D) := fun d M => match d with
  | .tup ds => .ok ds M
  | .lst ds => .ok ds M
  | .str z => .ok (signs z) M
  | _ => .err
def mItems (m : ME) : MA := fun env M => (m env M).bind fun d M1 => itemsD d M1
theorem wk_tup {K : PySem.W.Frag} {ρ : Rho} {M : MH} {H : Hp} {a : Addr} {ds : List D} {xs : List V} (Rl : Rel K ρ M H) (hs : SqT K H a xs) (hd : Dens K ρ H ds xs) : Wk K ρ H (Itt K a) ds where
  goes := fun i ρ' M' H' hi R' S _ => walk_tup.goes i H' (by rw [← hd.length]; exact hi) (SqT.tr S hs)
  stops := fun ρ' M' H' R' S _ => by
    rw [hd.length]
    exact walk_tup.stops H' (SqT.tr S hs)
  yields := fun i ρ' M' H' x H'' d hd' R' S _ y => by
    obtain ⟨v, h1, h2⟩ := hd.get hd'
    obtain ⟨e1, e2⟩ := walk_tup.yields i H' x H'' ((List.getElem?_eq_some_iff.mp h1).1) (SqT.tr S hs) y
    subst e1
    rw [h1] at e2
    cases e2
    exact ⟨R', Stp.refl (K := K) (M := M), Den.tr S _ _ h2⟩
theorem wk_lst {K : PySem.W.Frag} {ρ : Rho} {M : MH} {H : Hp} {a : Addr} {ds : List D} {xs : List V} (Rl : Rel K ρ M H) (hs : LsV K ρ H a xs) (hd : Dens K ρ H ds xs) : Wk K ρ H (Itl K a) ds where
  goes := fun i ρ' M' H' hi R' S _ => walk_list.goes i H' (by rw [← hd.length]; exact hi) (hs.tr S).sq
  stops := fun ρ' M' H' R' S _ => by
    rw [hd.length]
    exact walk_list.stops H' (hs.tr S).sq
  yields := fun i ρ' M' H' x H'' d hd' R' S _ y => by
    obtain ⟨v, h1, h2⟩ := hd.get hd'
    obtain ⟨e1, e2⟩ := walk_list.yields i H' x H'' ((List.getElem?_eq_some_iff.mp h1).1) (hs.tr S).sq y
    subst e1
    rw [h1] at e2
    cases e2
    exact ⟨R', Stp.refl (K := K) (M := M), Den.tr S _ _ h2⟩
theorem signs_get {z : Str} {i : Nat} {d : D} (h : (signs z)[i]? = some d) : ∃ c, z.cps[i]? = some c ∧ d = .str ⟨#[c]⟩ := by
  unfold signs at h
  rw [List.getElem?_map] at h
  obtain ⟨c, h1, h2⟩ := Option.map_eq_some_iff.mp h
  exact ⟨c, by simpa using h1, h2.symm⟩
theorem signs_len (z : Str) : (signs z).length = z.cps.size := by simp [signs]
theorem wk_str {K : PySem.W.Frag} {ρ : Rho} {M : MH} {H : Hp} {z : Str} : Wk K ρ H (Its z) (signs z) where
  goes := fun i ρ' M' H' hi _ _ _ => by
    rw [signs_len] at hi
    exact hi
  stops := fun ρ' M' H' _ _ _ => by
    rw [signs_len]
    exact Nat.le_refl _
  yields := fun i ρ' M' H' x H'' d hd R' S _ y => by
    obtain ⟨e1, c, hc, e2⟩ := y
    obtain ⟨c', hc', e3⟩ := signs_get hd
    rw [hc] at hc'
    cases hc'
    subst e1 e2 e3
    exact ⟨R', Stp.refl (K := K) (M := M'), den_str.mpr rfl⟩
/-- over a tuple, a list, a text -/
theorem i_seq {tg e : Expr} {m : ME} (h : SE X W e m) : SI X W tg e (mItems m) := by
  refine ⟨fun pins s σ H Rr I q => ?_⟩
  obtain ⟨ρ, M, env, Rl, E, q⟩ := q
  have q0 := q
  unfold mItems at q0
  have key : ∀ d M1, m env M = .ok d M1 → Ok X.K ρ H (DnI X.K) (fun c d H' => W c d σ H') (fun J H1 => Rr J H1) (itemsD d M1) := fun d M1 e => by
    rw [e] at q0
    exact q0
  have viaT : (∀ ds M1, m env M = .ok (.lst ds) M1 → False) → (∀ z M1, m env M = .ok (.str z) M1 → False) → wpAny (model X.prog X.w) X.A (eval e X.env) (fun v s1 => wpAny (model X.prog X.w) X.A (pyIter v) (PIE X pins σ tg Rr) X.xe s1) X.xe s := fun no no2 => by
    refine (pi_tup h).run pins s σ H Rr I ?_
    refine ⟨ρ, M, env, Rl, E, q0.bind fun d M1 ρ1 H1 v e S R1 dv q1 => ?_⟩
    cases d <;> first
      | exact q1.elim
      | exact (no _ _ e).elim
      | exact (no2 _ _ e).elim
      | (obtain ⟨a, xs, rfl, hs, hd⟩ := den_tup.mp dv
         exact ⟨a, rfl, ⟨xs, hs⟩, q1 ρ1 H1 _ (Stp.refl (K := X.K) (M := M1)) R1 (wk_tup R1 hs hd)⟩)
  cases r : m env M with
  | err => exact viaT (fun ds M1 e => by rw [r] at e; cases e) fun ds M1 e => by rw [r] at e; cases e
  | exc c fs M1 => exact viaT (fun ds M1 e => by rw [r] at e; cases e) fun ds M1 e => by rw [r] at e; cases e
  | ok d M1 =>
    cases d with
    | lst ds =>
      refine (pi_list h).run pins s σ H Rr I ?_
      refine ⟨ρ, M, env, Rl, E, q0.bind fun d M1 ρ1 H1 v e S R1 dv q1 => ?_⟩
      rw [r] at e
      cases e
      obtain ⟨a, xs, rfl, hs, hd⟩ := den_lst.mp dv
      exact ⟨a, rfl, ⟨xs, hs.sq⟩, q1 ρ1 H1 _ (Stp.refl (K := X.K) (M := M1)) R1 (wk_lst R1 hs hd)⟩
    | str z =>
      refine (pi_str h).run pins s σ H Rr I ?_
      refine ⟨ρ, M, env, Rl, E, q0.bind fun d M1 ρ1 H1 v e S R1 dv q1 => ?_⟩
      rw [r] at e
      cases e
      exact ⟨z, den_str.mp dv, q1 ρ1 H1 _ (Stp.refl (K := X.K) (M := M1)) R1 (wk_str (M := M1))⟩
    | _ => exact viaT (fun ds M1 e => by rw [r] at e; cases e) fun ds M1 e => by rw [r] at e; cases e
/-- over range(n), range(a, b) -/
def rangeL (lo : Int) (n : Nat) : List D := (List.range n).map fun (i : Nat) => .int (lo + i)
theorem rangeL_get {lo : Int} {n i : Nat} {d : D} (h : (rangeL lo n)[i]? = some d) : i < n ∧ d = .int (lo + i) := by
  unfold rangeL at h
  rw [List.getElem?_map] at h
  obtain ⟨j, h1, h2⟩ := Option.map_eq_some_iff.mp h
  have h3 := (List.getElem?_eq_some_iff.mp h1)
  obtain ⟨h4, h5⟩ := h3
  rw [List.length_range] at h4
  rw [List.getElem_range] at h5
  subst h5
  exact ⟨h4, h2.symm⟩
theorem rangeL_len (lo : Int) (n : Nat) : (rangeL lo n).length = n := by simp [rangeL]
def rng1D : List D → MH → R (List D) := fun ds M => match ds with
  | [.int j] => if j.natAbs < lim then .ok (rangeL 0 j.toNat) M else .err
  | _ => .err
def rng2D : List D → MH → R (List D) := fun ds M => match ds with
  | [.int i, .int j] => if i.natAbs < lim ∧ j.natAbs < lim then .ok (rangeL i (j - i).toNat) M else .err
  | _ => .err
def mI (f : List D → MH → R (List D)) (a : MA) : MA := fun env M => (a env M).bind fun xs M1 => f xs M1
theorem wk_rng {K : PySem.W.Frag} {ρ : Rho} {M : MH} {H : Hp} {lo : Int} {n : Nat} : Wk K ρ H (Itr lo n) (rangeL lo n) where
  goes := fun i ρ' M' H' hi _ _ _ => by
    rw [rangeL_len] at hi
    exact hi
  stops := fun ρ' M' H' _ _ _ => by
    rw [rangeL_len]
    exact Nat.le_refl n
  yields := fun i ρ' M' H' x H'' d hd R' S _ y => by
    obtain ⟨e1, e2⟩ := y
    obtain ⟨_, e3⟩ := rangeL_get hd
    subst e1 e2 e3
    exact ⟨R', Stp.refl (K := K) (M := M'), den_int.mpr rfl⟩
theorem far {j : Int} (h : j.natAbs < lim) : -(2 ^ 62) ≤ j ∧ j < 2 ^ 62 := by
  have e : (2 : Int) ^ 62 = 4611686018427387904 := by decide +kernel
  have h2 : j.natAbs < 1000000 := h
  rw [e]
  omega
theorem rng1_o {K : PySem.W.Frag} {ρ : Rho} {M : MH} {H : Hp} {W : Value → Option Addr → Hp → Prop} {Q : It → Hp → Prop} {ds : List D} {vs : List V} (R1 : Rel K ρ M H) (dv : Dens K ρ H ds vs) (q1 : Ok K ρ H (DnI K) W Q (rng1D ds M)) :
    ∃ j : Int, vs = [.int j] ∧ -(2 ^ 62) ≤ j ∧ j < 2 ^ 62 ∧ Q (Itr 0 j.toNat) H := by
  unfold rng1D at q1
  split at q1
  · rename_i j
    split at q1
    · rename_i z
      exact ⟨j, dens_ints_inv (ns := [j]) dv, (far z).1, (far z).2, q1 ρ H _ (Stp.refl (K := K) (M := M)) R1 (wk_rng (M := M))⟩
    · exact q1.elim
  · exact q1.elim
theorem rng2_o {K : PySem.W.Frag} {ρ : Rho} {M : MH} {H : Hp} {W : Value → Option Addr → Hp → Prop} {Q : It → Hp → Prop} {ds : List D} {vs : List V} (R1 : Rel K ρ M H) (dv : Dens K ρ H ds vs) (q1 : Ok K ρ H (DnI K) W Q (rng2D ds M)) :
    ∃ i j : Int, vs = [.int i, .int j] ∧ (-(2 ^ 62) ≤ i ∧ i < 2 ^ 62 ∧ -(2 ^ 62) ≤ j ∧ j < 2 ^ 62) ∧ Q (Itr i (j - i).toNat) H := by
  unfold rng2D at q1
  split at q1
  · rename_i i j
    split at q1
    · rename_i z
      exact ⟨i, j, dens_ints_inv (ns := [i, j]) dv, ⟨(far z.1).1, (far z.1).2, (far z.2).1, (far z.2).2⟩, q1 ρ H _ (Stp.refl (K := K) (M := M)) R1 (wk_rng (M := M))⟩
    · exact q1.elim
  · exact q1.elim
theorem i_rng1 {tg a : Expr} {p pos : Pos} {ma : MA} (hm : X.mg "range" = none) (h : SA X W [a] ma) (hg : Gl X "range" := by rfl) (hs : starEach [a] X.env = [(false, eval a X.env)] := by rfl) : SI X W tg (.Call (.Name "range" p) [a] [] pos) (mI rng1D ma) := by
  refine ⟨fun pins s σ H Rr I q => (pi_range1 hg hm h hs).run pins s σ H Rr I ?_⟩
  obtain ⟨ρ, M, env, Rl, E, q⟩ := q
  exact ⟨ρ, M, env, Rl, E, q.bind fun ds M1 ρ1 H1 vs _ S R1 dv q1 => rng1_o R1 dv q1⟩
theorem i_rng2 {tg a b : Expr} {p pos : Pos} {ma : MA} (hm : X.mg "range" = none) (h : SA X W [a, b] ma) (hg : Gl X "range" := by rfl) (hs : starEach [a, b] X.env = [(false, eval a X.env), (false, eval b X.env)] := by rfl) (hs2 : starEach [b] X.env = [(false, eval b X.env)] := by rfl) :
    SI X W tg (.Call (.Name "range" p) [a, b] [] pos) (mI rng2D ma) := by
  refine ⟨fun pins s σ H Rr I q => (pi_range2 hg hm h hs hs2).run pins s σ H Rr I ?_⟩
  obtain ⟨ρ, M, env, Rl, E, q⟩ := q
  exact ⟨ρ, M, env, Rl, E, q.bind fun ds M1 ρ1 H1 vs _ S R1 dv q1 => rng2_o R1 dv q1⟩

/-! ### targets: a name, names in a tuple -/
/-- an item put into slots; js: these slots -/
structure SG (X : Cx) (tg : Expr) (js : List Nat) (g : D → En → Option En) : Prop where
  run : ∃ t : TG, PG X tg t ∧ ∀ ρ M H d v env env' σ (Q : L2.St → Hp → Prop), Rel X.K ρ M H → EnR X.K ρ H env σ → Den X.K ρ H d v → g d env = some env' →
    (∀ σ', EnR X.K ρ H env' σ' → σ'.length = σ.length → (∀ k, k ∉ js → σ'[k]? = σ[k]?) → Q σ' H) → t v σ H Q
def gNam (i : Nat) : D → En → Option En := fun d env => some (env.set i (some d))
theorem g_name {i : Nat} {x : Str} {pos : Pos} (hN : X.N.Nodup) (hi : X.N[i]? = some x) (hx : Loc X.env.scope x) (hf : X.fn x = true ∨ X.env.scope.names.lookup x = some .local := by first | exact .inl rfl | exact .inr rfl | assumption) : SG X (.Name x pos) [i] (gNam i) :=
  ⟨gName i, pg_name hN hi hx hf, fun ρ M H d v env env' σ Q Rl E dv e q => by
    cases e
    exact q _ (E.set i dv) (by simp) fun k hk => List.getElem?_set_ne (fun z => hk (by simp [z]))⟩
structure SGs (X : Cx) (ts : List Expr) (js : List Nat) (g : List D → En → Option En) : Prop where
  run : ∃ t : TGs, PGs X ts t ∧ ∀ ρ M H ds vs env env' σ (Q : L2.St → Hp → Prop), Rel X.K ρ M H → EnR X.K ρ H env σ → Dens X.K ρ H ds vs → g ds env = some env' →
    (∀ σ', EnR X.K ρ H env' σ' → σ'.length = σ.length → (∀ k, k ∉ js → σ'[k]? = σ[k]?) → Q σ' H) → t vs σ H Q
def gsNil : List D → En → Option En := fun ds env => match ds with
  | [] => some env
  | _ => none
def gsCons (g : D → En → Option En) (r : List D → En → Option En) : List D → En → Option En := fun ds env => match ds with
  | d :: ds => (g d env).bind fun env' => r ds env'
  | [] => none
theorem g_nil : SGs X [] [] gsNil :=
  ⟨gNil, pgs_nil, fun ρ M H ds vs env env' σ Q Rl E dv e q => by
    cases ds with
    | nil =>
      cases e
      exact ⟨dens_nil.mp dv, q σ E rfl fun _ _ => rfl⟩
    | cons d ds => cases e⟩
theorem g_cons {e : Expr} {es : List Expr} {js ks : List Nat} {g : D → En → Option En} {r : List D → En → Option En} (h1 : SG X e js g) (h2 : SGs X es ks r)
    (hs : (assignEach (e :: es) X.env).map (·.2) = assign e X.env :: (assignEach es X.env).map (·.2) := by rfl) : SGs X (e :: es) (js ++ ks) (gsCons g r) := by
  obtain ⟨t, p1, q1⟩ := h1.run
  obtain ⟨u, p2, q2⟩ := h2.run
  refine ⟨gCons t u, pgs_cons p1 p2 hs, fun ρ M H ds vs env env' σ Q Rl E dv e q => ?_⟩
  cases ds with
  | nil => cases e
  | cons d ds =>
    obtain ⟨v, r', rfl, d1, d2⟩ := dens_cons.mp dv
    have e' : (g d env).bind (fun env' => r ds env') = some env' := e
    obtain ⟨env1, e1, e2⟩ := Option.bind_eq_some_iff.mp e'
    refine ⟨v, r', rfl, q1 ρ M H d v env env1 σ _ Rl E d1 e1 fun σ1 E1 l1 k1 => ?_⟩
    refine q2 ρ M H ds r' env1 env' σ1 Q Rl E1 d2 e2 fun σ2 E2 l2 k2 => q σ2 E2 (l2.trans l1) fun k hk => ?_
    rw [k2 k fun z => hk (List.mem_append_right _ z), k1 k fun z => hk (List.mem_append_left _ z)]
def gTupD (n : Nat) (g : List D → En → Option En) : D → En → Option En := fun d env => match d with
  | .tup ds => if ds.length = n then g ds env else none
  | _ => none
theorem g_tup {es : List Expr} {k : Nat} {js : List Nat} {pos : Pos} {g : List D → En → Option En} {n : Nat} (hc : X.calm = true) (h : SGs X es js g)
    (hn : (assignEach es X.env).length = n := by rfl) (hst : (assignEach es X.env).findIdx? (·.1) = none := by rfl) : SG X (.Tuple es k pos) js (gTupD n g) := by
  obtain ⟨t, p, q⟩ := h.run
  refine ⟨gTup X.K n t, pg_tup hc p hn hst, fun ρ M H d v env env' σ Q Rl E dv e w => ?_⟩
  cases d with
  | tup ds =>
    obtain ⟨a, xs, rfl, hs, hd⟩ := den_tup.mp dv
    unfold gTupD at e
    simp only at e
    split at e
    · rename_i z
      exact ⟨a, xs, rfl, hs, by rw [← hd.length]; exact z, q ρ M H ds xs env env' σ Q Rl E hd e w⟩
    · cases e
  | _ => cases e

/-! ### comprehensions -/
def wipeE (env : En) : List Nat → En
  | [] => env
  | v :: vs => (wipeE env vs).set v none
theorem EnR.wipe {K : PySem.W.Frag} {ρ : Rho} {H : Hp} {env : En} {σ : L2.St} (E : EnR K ρ H env σ) : ∀ vs : List Nat, EnR K ρ H (wipeE env vs) (L2.wipe σ vs)
  | [] => E
  | v :: vs => by
    have ih := EnR.wipe E vs
    refine ⟨by unfold wipeE L2.wipe; rw [List.length_set, List.length_set]; exact ih.len, fun i d h => ?_⟩
    unfold wipeE at h
    unfold L2.wipe
    by_cases hi : v = i
    · subst hi
      by_cases hv : v < (wipeE env vs).length
      · rw [List.getElem?_set_self hv] at h; cases h
      · rw [List.getElem?_eq_none (by simpa using hv)] at h; cases h
    · rw [List.getElem?_set_ne hi] at h
      rw [List.getElem?_set_ne hi]
      exact ih.get i d h
theorem wipe_mem {σ : L2.St} {k : Nat} : ∀ {vs : List Nat}, k ∈ vs → k < σ.length → (L2.wipe σ vs)[k]? = some none
  | [], h, _ => by simp at h
  | v :: vs, h, hk => by
    unfold L2.wipe
    by_cases hv : v = k
    · subst hv
      rw [List.getElem?_set_self (by rw [wipe_length]; exact hk)]
    · rw [List.getElem?_set_ne hv]
      refine wipe_mem ?_ hk
      rcases List.mem_cons.mp h with z | z
      · exact absurd z.symm hv
      · exact z
theorem wipe_not {σ : L2.St} {k : Nat} : ∀ {vs : List Nat}, k ∉ vs → (L2.wipe σ vs)[k]? = σ[k]?
  | [], _ => rfl
  | v :: vs, h => by
    unfold L2.wipe
    rw [List.getElem?_set_ne fun z => h (by simp [z])]
    exact wipe_not fun z => h (List.mem_cons_of_mem _ z)
theorem wipe_same {σ σ' : L2.St} {vs : List Nat} (hl : σ'.length = σ.length) (h : ∀ k, k ∉ vs → σ'[k]? = (L2.wipe σ vs)[k]?) : L2.wipe σ' vs = L2.wipe σ vs := by
  refine List.ext_getElem? fun k => ?_
  by_cases hk : k ∈ vs
  · by_cases hl2 : k < σ.length
    · rw [wipe_mem hk hl2, wipe_mem hk (by rw [hl]; exact hl2)]
    · rw [List.getElem?_eq_none (by rw [wipe_length]; omega), List.getElem?_eq_none (by rw [wipe_length]; omega)]
  · rw [wipe_not hk, h k hk]
/-- nothing is let out -/
def noX {α : Type} : R α → R α
  | .ok a M => .ok a M
  | _ => .err
def lcOne (g : D → En → Option En) (t : MT) (e : ME) (env : En) : D → MH → R (Option D) := fun x M => match g x env with
  | some env' => (noX (t env' M)).bind fun b M1 => if b = true then (noX (e env' M1)).bind fun d M2 => .ok (some d) M2 else .ok none M1
  | none => .err
def lcGo (f : D → MH → R (Option D)) : List D → MH → R (List D)
  | [], M => .ok [] M
  | x :: xs, M => (f x M).bind fun o M1 => (lcGo f xs M1).bind fun r M2 => .ok (match o with | some d => d :: r | none => r) M2
def mLc (mi : MA) (g : D → En → Option En) (t : MT) (e : ME) (vs : List Nat) : ME := fun env M => (mi env M).bind fun items M1 => if items.length < lim then (lcGo (lcOne g t e (wipeE env vs)) items M1).bind fun ds M2 => .ok (.lst ds) M2 else .err
def mYes : MT := fun _ M => .ok true M
abbrev W0 : WX := fun _ _ _ _ => False
def SPt (X : Cx) (W : WX) (ifs : List Expr) (m : MT) : Prop := PTs X ifs (tm X.K DnB W m)
theorem p_nil : SPt X W [] mYes := ⟨fun pins s σ H Q I q => by
  obtain ⟨ρ, M, env, Rl, E, q⟩ := q
  exact pts_nil.run pins s σ H Q I (hereB Rl q)⟩
theorem p_one {c : Expr} {m : MT} (h : ST X W c m) : SPt X W [c] m := pts_one h
end
end Mi

end

section
/-! Mi, eighth part: a list made by a comprehension. -/
namespace Mi
open PySem PySem.Spec PyProof.Rows L2
section
variable {K : PySem.W.Frag}
theorem lcOne_ne {g : D → En → Option En} {t : MT} {e : ME} {env : En} {x : D} {M : MH} : ∀ c fs M', lcOne g t e env x M ≠ .exc c fs M' := by
  intro c fs M' h
  unfold lcOne at h
  cases hg : g x env with
  | none => rw [hg] at h; cases h
  | some env' =>
    rw [hg] at h
    simp only at h
    cases ht : t env' M with
    | ok b M1 =>
      rw [ht] at h
      simp only [noX, R.bind_ok] at h
      cases b with
      | false => cases h
      | true =>
        simp only [if_pos] at h
        cases he : e env' M1 with
        | ok d M2 => rw [he] at h; cases h
        | exc c2 f2 M2 => rw [he] at h; cases h
        | err => rw [he] at h; cases h
    | exc c2 f2 M2 => rw [ht] at h; cases h
    | err => rw [ht] at h; cases h
/-- how far it has come: ds is made, at Dl -/
def LcP (K : PySem.W.Frag) (ρ1 : Rho) (M1 : MH) (H1 : Hp) (Dl : Addr) (f : D → MH → R (Option D)) (items : List D) (i : Nat) (H : Hp) : Prop :=
  ∃ ρ M acc ds, Rel K (ρ.hide Dl) M H ∧ Stp ρ1 H1 ρ H ∧ Tr ρ1 H1 (ρ.hide Dl) H ∧ H Dl = some (.lst acc) ∧ Dens K (ρ.hide Dl) H ds acc ∧ acc.length ≤ i ∧ lcGo f items M1 = (lcGo f (items.drop i) M).bind fun r M2 => .ok (ds ++ r) M2
theorem bind_eta {α : Type} (r : R (List α)) : (r.bind fun x M => .ok ([] ++ x) M) = r := by cases r <;> rfl
theorem lcP_start {ρ1 : Rho} {M1 : MH} {H1 : Hp} {Dl : Addr} {f : D → MH → R (Option D)} {items : List D} (Rl : Rel K ρ1 M1 H1) (hD : H1 Dl = none) : LcP K ρ1 M1 H1 Dl f items 0 (upd H1 Dl (.lst [])) :=
  ⟨ρ1, M1, [], [], Rl.hide hD, Stp.alloc hD, Tr.hide hD, upd_same, dens_nil.mpr rfl, Nat.le_refl _, by rw [List.drop_zero, bind_eta]⟩
/-- behind a turn: the hidden list is the same object still -/
theorem stp_out {ρ1 ρ ρ4 : Rho} {H1 H H4 : Hp} {Dl : Addr} (hD : H1 Dl = none) (S : Stp ρ1 H1 ρ H) (S4 : Stp (ρ.hide Dl) H ρ4 H4) : Stp ρ1 H1 ⟨ρ4.c, ρ.h⟩ H4 where
  pre := fun l o h => by
    rcases S.pre l o h with q | q
    · exact S4.pre l o q
    · rcases S4.pre l none q with z | z <;> exact .inr z
  new := fun x m => by
    rcases S4.new x m with q | q
    · exact S.new x q
    · cases e : H1 x with
      | none => exact .inr rfl
      | some o =>
        by_cases hx : some x ∈ ρ1.c
        · exact .inl hx
        · rw [S.keep x o e hx] at q; cases q
  keep := fun x o h n => S4.keep x o (S.keep x o h n) (S.notin h n)
  hid := S.hid
theorem stp_app {ρ1 ρ : Rho} {H1 H : Hp} {Dl : Addr} {o : HO} (hD : H1 Dl = none) (S : Stp ρ1 H1 ρ H) : Stp ρ1 H1 ρ (upd H Dl o) where
  pre := S.pre
  new := S.new
  keep := fun x u h n => by
    rw [upd_ne (ne_of_none h hD)]
    exact S.keep x u h n
  hid := S.hid
theorem rho_hide {ρ ρ4 : Rho} {Dl : Addr} (h : ρ4.h = (ρ.hide Dl).h) : ρ4 = (⟨ρ4.c, ρ.h⟩ : Rho).hide Dl := by
  cases ρ4 with
  | mk c hh =>
    have e : hh = Dl :: ρ.h := h
    subst e
    rfl
end
section
variable {X : Cx} {W : WX}
theorem drop_cons {α : Type} {xs : List α} {i : Nat} {x : α} (h : xs[i]? = some x) : xs.drop i = x :: xs.drop (i + 1) := by
  obtain ⟨hi, e⟩ := List.getElem?_eq_some_iff.mp h
  rw [List.drop_eq_getElem_cons hi, e]
/-- the weakest reading of a target -/
def gW (K : PySem.W.Frag) (js : List Nat) (g : D → En → Option En) : TG := fun v σ H Q => ∃ ρ M d env env', Rel K ρ M H ∧ EnR K ρ H env σ ∧ Den K ρ H d v ∧ g d env = some env' ∧ ∀ σ', EnR K ρ H env' σ' → σ'.length = σ.length → (∀ k, k ∉ js → σ'[k]? = σ[k]?) → Q σ' H
theorem gW_of {tg : Expr} {js : List Nat} {g : D → En → Option En} (h : SG X tg js g) : PG X tg (gW X.K js g) := by
  obtain ⟨t, p, q⟩ := h.run
  refine ⟨fun pins s1 σ H1 v u Q I r h => p.run pins s1 σ H1 v u Q I r ?_⟩
  obtain ⟨ρ, M, d, env, env', h1, h2, h3, h4, h5⟩ := h
  exact q ρ M H1 d v env env' σ Q h1 h2 h3 h4 h5
theorem lc_imp {K : PySem.W.Frag} {mi : MA} {js vs : List Nat} {g : D → En → Option En} {mt : MT} {me : ME} {σ : L2.St} {H : Hp} {Q : VK} (hj : ∀ j ∈ js, j ∈ vs) (h : tm K (DnD K) W (mLc mi g mt me vs) σ H Q) :
    tLc (tm K (DnI K) W mi) (gW K js g) (tm K DnB W0 mt) (tm K (DnD K) W0 me) vs σ H Q := by
  refine tm_bind (f := fun items env M1 => if items.length < lim then (lcGo (lcOne g mt me (wipeE env vs)) items M1).bind fun ds M2 => (R.ok (D.lst ds) M2 : R D) else .err) h fun items M1 ρ1 H1 J env R1 E1 wk h => ?_
  intro Dl hD
  split at h
  rotate_left
  · exact h.elim
  rename_i hlim
  have tot : lcGo (lcOne g mt me (wipeE env vs)) items M1 ≠ .err := fun e => by
    rw [e] at h
    exact h
  -- the walk over the items
  have wk' : Wk K ρ1 H1 J items := wk
  refine ⟨fun i m H' => m = items.length - i ∧ i ≤ items.length ∧ LcP K ρ1 M1 H1 Dl (lcOne g mt me (wipeE env vs)) items i H', ⟨items.length, by simp, Nat.zero_le _, lcP_start R1 hD⟩, ?_⟩
  rintro i m H' ⟨rfl, hi', ρ, M, acc, ds, Rl, S, T, eD, dd, hl, eq⟩
  by_cases hlt : i < items.length
  · refine .inr ⟨wk'.goes i _ M H' hlt Rl T (S.fk R1), fun H'' => i + 1 ≤ items.length ∧ LcP K ρ1 M1 H1 Dl (lcOne g mt me (wipeE env vs)) items (i + 1) H'', fun H'' p => ⟨items.length - (i + 1), by omega, rfl, p.1, p.2⟩, fun x H2 y => ?_⟩
    have hx : items[i]? = some items[i] := List.getElem?_eq_getElem hlt
    obtain ⟨R2, S2, dx⟩ := wk'.yields i _ M H' x H2 items[i] hx Rl T (S.fk R1) y
    have T2 : Tr (ρ.hide Dl) H' (ρ.hide Dl) H2 := S2.tr Rl
    rw [drop_cons hx] at eq
    -- what the turn comes to
    have e1 : ∀ r, lcOne g mt me (wipeE env vs) items[i] M = r → r ≠ .err := fun r e z => by
      refine tot ?_
      rw [eq]
      show ((lcOne g mt me (wipeE env vs) items[i] M).bind _).bind _ = _
      rw [e, z]
      rfl
    cases hgx : g items[i] (wipeE env vs) with
    | none => exact absurd (by unfold lcOne; rw [hgx]) (e1 _ rfl)
    | some env' =>
      have E2 : EnR K (ρ.hide Dl) H2 (wipeE env vs) (L2.wipe σ vs) := ((E1.tr T).tr T2).wipe _
      refine ⟨ρ.hide Dl, M, items[i], _, env', R2, E2, dx, hgx, fun σ2 E3 l3 keep => ⟨wipe_same (by rw [l3, wipe_length]) fun k hk => keep k fun z => hk (hj k z), ?_⟩⟩
      -- the tests
      have step : lcOne g mt me (wipeE env vs) items[i] M = (noX (mt env' M)).bind fun b M1 => if b = true then (noX (me env' M1)).bind fun d M2 => .ok (some d) M2 else .ok none M1 := by
        unfold lcOne
        rw [hgx]
      refine ⟨ρ.hide Dl, M, env', R2, E3, ?_⟩
      cases ht1 : mt env' M with
      | err => exact (e1 _ (by rw [step, ht1]; rfl)) rfl
      | exc c fs Mx => exact ((e1 _ (by rw [step, ht1]; rfl)) rfl).elim
      | ok b M3 =>
        intro ρ3 H3 b' S3 R3 eb
        cases (show b = b' from eb)
        have eD3 : H3 Dl = some (.lst acc) := S3.keep Dl _ (S2.keep Dl _ eD (Rl.hid Dl List.mem_cons_self).1) (R2.hid Dl List.mem_cons_self).1
        have T3 : Tr (ρ.hide Dl) H' ρ3 H3 := T2.trans (S3.tr R2)
        have Sx : Stp (ρ.hide Dl) H' ρ3 H3 := S2.trans S3
        cases b with
        | false =>
          show (if false = true then _ else _)
          rw [if_neg (by decide)]
          refine ⟨hlt, ⟨ρ3.c, ρ.h⟩, M3, acc, ds, ?_, stp_out hD S Sx, ?_, eD3, ?_, Nat.le_succ_of_le hl, ?_⟩
          · rw [← rho_hide Sx.hid]; exact R3
          · rw [← rho_hide Sx.hid]; exact T.trans T3
          · rw [← rho_hide Sx.hid]; exact Dens.tr T3 _ _ dd
          · rw [eq]
            show ((lcOne g mt me (wipeE env vs) items[i] M).bind _).bind _ = _
            rw [step, ht1]
            show (((R.ok (none : Option D) M3)).bind _).bind _ = _
            simp only [R.bind_ok]
            cases lcGo (lcOne g mt me (wipeE env vs)) (items.drop (i + 1)) M3 <;> rfl
        | true =>
          show (if true = true then _ else _)
          rw [if_pos rfl]
          refine ⟨ρ3, M3, env', R3, E3.tr (S3.tr R2), ?_⟩
          cases he1 : me env' M3 with
          | err => exact (e1 _ (by rw [step, ht1]; show (R.bind (noX (me env' M3)) _) = _; rw [he1]; rfl)) rfl
          | exc c fs Mx => exact ((e1 _ (by rw [step, ht1]; show (R.bind (noX (me env' M3)) _) = _; rw [he1]; rfl)) rfl).elim
          | ok d M4 =>
            intro ρ4 H4 v S4 R4 dv
            have m3 : Dl ∈ ρ3.h := by rw [Sx.hid]; exact List.mem_cons_self
            have m4 : Dl ∈ ρ4.h := by rw [S4.hid]; exact m3
            have eD4 : H4 Dl = some (.lst acc) := S4.keep Dl _ eD3 (R3.hid Dl m3).1
            have Sy : Stp (ρ.hide Dl) H' ρ4 H4 := Sx.trans S4
            have T4 : Tr (ρ.hide Dl) H' ρ4 H4 := T3.trans (S4.tr R3)
            have T5 : Tr ρ4 H4 ρ4 (upd H4 Dl (.lst (acc ++ [v]))) := Tr.hidden m4 eD4
            have hsz : acc.length < sizeLine := lim_lt (by omega)
            refine ⟨acc, eD4, hsz, hlt, ⟨ρ4.c, ρ.h⟩, M4, acc ++ [v], ds ++ [d], ?_, stp_app hD (stp_out hD S Sy), ?_, upd_same, ?_, ?_, ?_⟩
            · rw [← rho_hide Sy.hid]; exact R4.hidden m4 eD4
            · rw [← rho_hide Sy.hid]; exact (T.trans T4).trans T5
            · rw [← rho_hide Sy.hid]
              exact (Dens.tr (T4.trans T5) _ _ dd).append (dens_cons.mpr ⟨v, [], rfl, Den.tr T5 _ _ dv, dens_nil.mpr rfl⟩)
            · rw [List.length_append]
              show acc.length + 1 ≤ i + 1
              omega
            · rw [eq]
              show ((lcOne g mt me (wipeE env vs) items[i] M).bind _).bind _ = _
              rw [step, ht1]
              show ((R.bind (noX (me env' M3)) _).bind _).bind _ = _
              rw [he1]
              show (((R.ok (some d) M4)).bind _).bind _ = _
              simp only [R.bind_ok]
              cases lcGo (lcOne g mt me (wipeE env vs)) (items.drop (i + 1)) M4 with
              | ok r M5 => simp
              | exc c fs M5 => rfl
              | err => rfl
  · have e : i = items.length := by omega
    subst e
    refine .inl ⟨wk'.stops _ M H' Rl T (S.fk R1), ?_⟩
    rw [List.drop_length] at eq
    have eq2 : lcGo (lcOne g mt me (wipeE env vs)) items M1 = .ok (ds ++ []) M := eq
    rw [eq2, List.append_nil] at h
    obtain ⟨n1, _⟩ := Rl.hid Dl List.mem_cons_self
    have n2 : Dl ∉ ρ.h := by
      rw [S.hid]
      exact R1.freshH hD
    exact h ρ H' (.ref Dl) S Rl.unhide (den_lst.mpr ⟨Dl, acc, rfl, .inl ⟨.inl eD, n1, n2⟩, Dens.tr Tr.unhide _ _ dd⟩)
theorem s_lc {elt tg iter : Expr} {ifs : List Expr} {scope : Scope} {own : List (Str × Nat)} {pos : Pos} {mi : MA} {js : List Nat} {g : D → En → Option En} {mt : MT} {me : ME} (hc : X.calm = true) (hN : X.N.Nodup) (hi : SI X W tg iter mi) (ok : BlkOk X.N X.env.scope scope own)
    (hj : ∀ j ∈ js, j ∈ own.map (·.2))
    (hg : ∀ (s : Shared) (H : Hp) (C : Addr) (cl : List (Str × Addr)) (fp : List Addr), SG (X.blk s H scope (compEnvC scope cl C X.env) fp) tg js g)
    (ht : ∀ (s : Shared) (H : Hp) (C : Addr) (cl : List (Str × Addr)) (fp : List Addr), SPt (X.blk s H scope (compEnvC scope cl C X.env) fp) W0 ifs mt)
    (he : ∀ (s : Shared) (H : Hp) (C : Addr) (cl : List (Str × Addr)) (fp : List Addr), SE (X.blk s H scope (compEnvC scope cl C X.env) fp) W0 elt me) (hs : ∀ x, foldedSetIterable iter X.env x = pure x := by intro _; rfl) :
    SE X W (.ListComp elt [⟨tg, iter, ifs, 0⟩] scope pos) (mLc mi g mt me (own.map (·.2))) :=
  pe_imp (pe_lc (g := gW X.K js g) (tt := tm X.K DnB W0 mt) (te := tm X.K (DnD X.K) W0 me) hc hN hi ok (fun s H C cl fp => gW_of (hg s H C cl fp)) (fun s H C cl fp => ht s H C cl fp) (fun s H C cl fp => he s H C cl fp) hs) fun _ _ _ h => lc_imp hj h
end
end Mi

end

section
/-! Mi, ninth part: statements. -/
namespace Mi
open PySem PySem.Spec PyProof.Rows L2

inductive RS where
  | nx (env : En) (M : MH)
  | ret (d : D) (M : MH)
  | bk (env : En) (M : MH)
  | ct (env : En) (M : MH)
  | exc (c : Str) (fs : Option (List (Str × D))) (env : En) (M : MH)
  | err
abbrev MS := En → MH → RS
def RS.bind (r : RS) (f : MS) : RS := match r with
  | .nx env M => f env M
  | r => r
/-- a value first, with these slots -/
def andS {α : Type} (r : R α) (env : En) (f : α → MH → RS) : RS := match r with
  | .ok a M => f a M
  | .exc c fs M => .exc c fs env M
  | .err => .err
@[simp] theorem RS.bind_nx (env : En) (M : MH) (f : MS) : (RS.nx env M).bind f = f env M := rfl
@[simp] theorem RS.bind_ret (d : D) (M : MH) (f : MS) : (RS.ret d M).bind f = .ret d M := rfl
@[simp] theorem RS.bind_bk (env : En) (M : MH) (f : MS) : (RS.bk env M).bind f = .bk env M := rfl
@[simp] theorem RS.bind_ct (env : En) (M : MH) (f : MS) : (RS.ct env M).bind f = .ct env M := rfl
@[simp] theorem RS.bind_exc (c : Str) (fs : Option (List (Str × D))) (env : En) (M : MH) (f : MS) : (RS.exc c fs env M).bind f = .exc c fs env M := rfl
@[simp] theorem RS.bind_err (f : MS) : RS.err.bind f = .err := rfl
@[simp] theorem andS_ok {α : Type} (a : α) (M : MH) (env : En) (f : α → MH → RS) : andS (.ok a M) env f = f a M := rfl
@[simp] theorem andS_exc {α : Type} (c : Str) (fs : Option (List (Str × D))) (M : MH) (env : En) (f : α → MH → RS) : andS (R.exc c fs M) env f = .exc c fs env M := rfl
@[simp] theorem andS_err {α : Type} (env : En) (f : α → MH → RS) : andS (R.err : R α) env f = .err := rfl

def OkS (K : PySem.W.Frag) (ρ : Rho) (H : Hp) (W : WX) (D : Ends) : RS → Prop
  | .nx env M => ∀ ρ' H' σ', Stp ρ H ρ' H' → Rel K ρ' M H' → EnR K ρ' H' env σ' → D.nx σ' H'
  | .ret d M => ∀ ρ' H' v, Stp ρ H ρ' H' → Rel K ρ' M H' → Den K ρ' H' d v → D.rt v H'
  | .bk env M => ∀ ρ' H' σ', Stp ρ H ρ' H' → Rel K ρ' M H' → EnR K ρ' H' env σ' → D.bk σ' H'
  | .ct env M => ∀ ρ' H' σ', Stp ρ H ρ' H' → Rel K ρ' M H' → EnR K ρ' H' env σ' → D.ct σ' H'
  | .exc c fs env M => ∀ ρ' H' d σ' cv, CN K c cv → Stp ρ H ρ' H' → Rel K ρ' M H' → XRel K ρ' H' fs d → EnR K ρ' H' env σ' → W cv d σ' H'
  | .err => False
theorem OkS.step {K : PySem.W.Frag} {ρ ρ1 : Rho} {H H1 : Hp} {W : WX} {D : Ends} {r : RS} (S : Stp ρ H ρ1 H1) (h : OkS K ρ H W D r) : OkS K ρ1 H1 W D r := by
  cases r with
  | nx env M => exact fun ρ' H' σ' S' => h ρ' H' σ' (S.trans S')
  | ret d M => exact fun ρ' H' σ' S' => h ρ' H' σ' (S.trans S')
  | bk env M => exact fun ρ' H' σ' S' => h ρ' H' σ' (S.trans S')
  | ct env M => exact fun ρ' H' σ' S' => h ρ' H' σ' (S.trans S')
  | exc c fs env M => exact fun ρ' H' d σ' cv cn S' => h ρ' H' d σ' cv cn (S.trans S')
  | err => exact h
def ts (K : PySem.W.Frag) (W : WX) (m : MS) : TS := fun D σ H => ∃ ρ M env, Rel K ρ M H ∧ EnR K ρ H env σ ∧ OkS K ρ H W D (m env M)
def SS (X : Cx) (W : WX) (st : Stmt) (m : MS) : Prop := PS X st (ts X.K W m)
def SB (X : Cx) (W : WX) (sts : List Stmt) (m : MS) : Prop := PSs X sts (ts X.K W m)
theorem ps_imp {X : Cx} {st : Stmt} {t t' : TS} (h : PS X st t) (i : ∀ D σ H, t' D σ H → t D σ H) : PS X st t' := ⟨fun pins s σ H D I q => h.run pins s σ H D I (i D σ H q)⟩
theorem pss_imp {X : Cx} {st : List Stmt} {t t' : TS} (h : PSs X st t) (i : ∀ D σ H, t' D σ H → t D σ H) : PSs X st t' := ⟨fun pins s σ H D I q => h.run pins s σ H D I (i D σ H q)⟩
/-- an expression's part of a statement -/
theorem andS_tm {α β : Type} {K : PySem.W.Frag} {dn : Rho → Hp → α → β → Prop} {W : WX} {D : Ends} {σ : L2.St} {H : Hp} {ρ : Rho} {M : MH} {env : En} {m : En → MH → R α} {f : α → MH → RS} {Q : β → Hp → Prop} (Rl : Rel K ρ M H) (E : EnR K ρ H env σ)
    (h : OkS K ρ H W D (andS (m env M) env f))
    (k : ∀ a M1 ρ1 H1 v, Rel K ρ1 M1 H1 → EnR K ρ1 H1 env σ → dn ρ1 H1 a v → OkS K ρ1 H1 W D (f a M1) → Q v H1) : tm K dn W m σ H Q := by
  refine ⟨ρ, M, env, Rl, E, ?_⟩
  cases e : m env M with
  | err => rw [e] at h; exact h
  | exc c fs M1 =>
    rw [e] at h
    exact fun ρ1 H1 d cv cn S R1 x => h ρ1 H1 d σ cv cn S R1 x (E.step Rl S)
  | ok a M1 =>
    rw [e] at h
    have h' : OkS K ρ H W D (f a M1) := h
    exact fun ρ1 H1 v S R1 dv => k a M1 ρ1 H1 v R1 (E.step Rl S) dv (h'.step S)
section
variable {X : Cx} {W : WX}
def bNil : MS := fun env M => .nx env M
def bCons (a b : MS) : MS := fun env M => (a env M).bind b
theorem b_nil : SB X W [] bNil := by
  refine pss_imp pss_nil fun D σ H h => ?_
  obtain ⟨ρ, M, env, Rl, E, h⟩ := h
  exact h ρ H σ (Stp.refl (K := X.K) (M := M)) Rl E
theorem b_cons {st : Stmt} {rest : List Stmt} {a b : MS} (h1 : SS X W st a) (h2 : SB X W rest b) : SB X W (st :: rest) (bCons a b) := by
  refine pss_imp (pss_cons h1 h2) fun D σ H h => ?_
  obtain ⟨ρ, M, env, Rl, E, h⟩ := h
  refine ⟨ρ, M, env, Rl, E, ?_⟩
  have h' : OkS X.K ρ H W D ((a env M).bind b) := h
  cases e : a env M with
  | nx env1 M1 =>
    rw [e] at h'
    exact fun ρ1 H1 σ1 S R1 E1 => ⟨ρ1, M1, env1, R1, E1, h'.step S⟩
  | ret d M1 => rw [e] at h'; exact h'
  | bk env1 M1 => rw [e] at h'; exact h'
  | ct env1 M1 => rw [e] at h'; exact h'
  | exc c fs env1 M1 => rw [e] at h'; exact h'
  | err => rw [e] at h'; exact h'
/-- the last one -/
theorem b_one {st : Stmt} {a : MS} (h1 : SS X W st a) : SB X W [st] a := pss_one h1
theorem c_pass {pos : Pos} : SS X W (.Pass pos) bNil := by
  refine ps_imp ps_pass fun D σ H h => ?_
  obtain ⟨ρ, M, env, Rl, E, h⟩ := h
  exact h ρ H σ (Stp.refl (K := X.K) (M := M)) Rl E
theorem c_doc {x j pos pos'} : SS X W (.Expr (.Constant (.str x) j pos) pos') bNil := by
  refine ps_imp ps_doc fun D σ H h => ?_
  obtain ⟨ρ, M, env, Rl, E, h⟩ := h
  exact h ρ H σ (Stp.refl (K := X.K) (M := M)) Rl E
def cBrk : MS := fun env M => .bk env M
def cCnt : MS := fun env M => .ct env M
theorem c_brk {pos : Pos} : SS X W (.Break pos) cBrk := by
  refine ps_imp ps_break fun D σ H h => ?_
  obtain ⟨ρ, M, env, Rl, E, h⟩ := h
  exact h ρ H σ (Stp.refl (K := X.K) (M := M)) Rl E
theorem c_cnt {pos : Pos} : SS X W (.Continue pos) cCnt := by
  refine ps_imp ps_continue fun D σ H h => ?_
  obtain ⟨ρ, M, env, Rl, E, h⟩ := h
  exact h ρ H σ (Stp.refl (K := X.K) (M := M)) Rl E
def cExp (m : ME) : MS := fun env M => andS (m env M) env fun _ M1 => .nx env M1
theorem c_exp {e : Expr} {pos : Pos} {m : ME} (h : SE X W e m) (hs : swapsWith e none pos.line X.env = pure false := by rfl) : SS X W (.Expr e pos) (cExp m) := by
  refine ps_imp (ps_expr h hs) fun D σ H q => ?_
  obtain ⟨ρ, M, env, Rl, E, q⟩ := q
  exact andS_tm Rl E q fun a M1 ρ1 H1 v R1 E1 dv q1 => q1 ρ1 H1 σ (Stp.refl (K := X.K) (M := M1)) R1 E1
def cRet (m : ME) : MS := fun env M => andS (m env M) env fun d M1 => .ret d M1
theorem c_ret {e : Expr} {pos : Pos} {m : ME} (h : SE X W e m) : SS X W (.Return (some e) pos) (cRet m) := by
  refine ps_imp (ps_ret h) fun D σ H q => ?_
  obtain ⟨ρ, M, env, Rl, E, q⟩ := q
  exact andS_tm Rl E q fun a M1 ρ1 H1 v R1 E1 dv q1 => q1 ρ1 H1 v (Stp.refl (K := X.K) (M := M1)) R1 dv
def cRetN : MS := fun _ M => .ret .non M
theorem c_retN {pos : Pos} : SS X W (.Return none pos) cRetN := by
  refine ps_imp ps_retN fun D σ H q => ?_
  obtain ⟨ρ, M, env, Rl, E, q⟩ := q
  exact q ρ H .non (Stp.refl (K := X.K) (M := M)) Rl (den_non.mpr rfl)
def cIf (c : MT) (a b : MS) : MS := fun env M => andS (c env M) env fun k M1 => if k = true then a env M1 else b env M1
theorem c_if {c : Expr} {sa sb : List Stmt} {pos : Pos} {mc : MT} {a b : MS} (hc : ST X W c mc) (ha : SB X W sa a) (hb : SB X W sb b) : SS X W (.If c sa sb pos) (cIf mc a b) := by
  refine ps_imp (ps_if hc ha hb) fun D σ H q => ?_
  obtain ⟨ρ, M, env, Rl, E, q⟩ := q
  refine andS_tm Rl E q fun k M1 ρ1 H1 v R1 E1 dv q1 => ?_
  cases (show k = v from dv)
  cases k with
  | true => exact ⟨ρ1, M1, env, R1, E1, q1⟩
  | false => exact ⟨ρ1, M1, env, R1, E1, q1⟩
/-! ### stores -/
def cAsg (m : ME) (g : D → En → Option En) : MS := fun env M => andS (m env M) env fun d M1 => match g d env with
  | some env' => .nx env' M1
  | none => .err
theorem asg_imp {K : PySem.W.Frag} {m : ME} {g : D → En → Option En} {te : TE} {js : List Nat} {D : Ends} {σ : L2.St} {H : Hp} (i : ∀ Q : VK, tm K (DnD K) W m σ H Q → te σ H Q) (q : ts K W (cAsg m g) D σ H) : tAsg te (gW K js g) D σ H := by
  obtain ⟨ρ, M, env, Rl, E, q⟩ := q
  refine i _ (andS_tm Rl E q fun d M1 ρ1 H1 v R1 E1 dv q1 => ?_)
  split at q1
  · rename_i env' e
    exact ⟨ρ1, M1, d, env, env', R1, E1, dv, e, fun σ' E2 _ _ => q1 ρ1 H1 σ' (Stp.refl (K := K) (M := M1)) R1 E2⟩
  · exact q1.elim
theorem c_asg {tg e : Expr} {pos : Pos} {m : ME} {js : List Nat} {g : D → En → Option En} (h : SE X W e m) (hg : SG X tg js g) (hs : swapsWithSole [tg] e pos.line X.env = pure false := by rfl) (hw : swappedStores [tg] e X.env = pure none := by rfl)
    (h1 : (assignEach [tg] X.env).map (·.2) = [assign tg X.env] := by rfl) : SS X W (.Assign [tg] e pos) (cAsg m g) :=
  ps_imp (ps_asg h (gW_of hg) hs hw h1) fun _ _ _ q => asg_imp (fun _ z => z) q
theorem c_set {i : Nat} {x : Str} {e : Expr} {pos pos' : Pos} {m : ME} (hN : X.N.Nodup) (h : SE X W e m) (hi : X.N[i]? = some x := by rfl) (hx : Loc X.env.scope x := by first | exact .inl rfl | exact .inr rfl) (hs : swapsWith e (some (.Name x pos')) pos.line X.env = pure false := by rfl)
    (hf : X.fn x = true ∨ X.env.scope.names.lookup x = some .local := by first | exact .inl rfl | exact .inr rfl | assumption) : SS X W (.Assign [.Name x pos'] e pos) (cAsg m (gNam i)) := by
  refine ps_imp (ps_set hN hi hx h hs hf) fun D σ H q => ?_
  obtain ⟨ρ, M, env, Rl, E, q⟩ := q
  exact andS_tm Rl E q fun d M1 ρ1 H1 v R1 E1 dv q1 => q1 ρ1 H1 _ (Stp.refl (K := X.K) (M := M1)) R1 (E1.set i dv)
/-- name = [.. for .. in ..] -/
theorem c_setLc {i : Nat} {y : Str} {py : Pos} {elt tg iter : Expr} {ifs : List Expr} {scope : Scope} {own : List (Str × Nat)} {pos spos : Pos} {mi : MA} {js : List Nat} {g : D → En → Option En} {mt : MT} {me : ME} (hc : X.calm = true) (hN : X.N.Nodup) (hi : SI X W tg iter mi) (ok : BlkOk X.N X.env.scope scope own)
    (hj : ∀ j ∈ js, j ∈ own.map (·.2))
    (hg : ∀ (s : Shared) (H : Hp) (C : Addr) (cl : List (Str × Addr)) (fp : List Addr), SG (X.blk s H scope (compEnvC scope cl C X.env) fp) tg js g)
    (ht : ∀ (s : Shared) (H : Hp) (C : Addr) (cl : List (Str × Addr)) (fp : List Addr), SPt (X.blk s H scope (compEnvC scope cl C X.env) fp) W0 ifs mt)
    (he : ∀ (s : Shared) (H : Hp) (C : Addr) (cl : List (Str × Addr)) (fp : List Addr), SE (X.blk s H scope (compEnvC scope cl C X.env) fp) W0 elt me)
    (hsw : swapsWith (.ListComp elt [⟨tg, iter, ifs, 0⟩] scope pos) (some (.Name y py)) spos.line X.env = pure true) (hy : X.N[i]? = some y := by rfl) (hyl : X.env.scope.names.lookup y = some .local := by rfl) (hs : ∀ x, foldedSetIterable iter X.env x = pure x := by intro _; rfl) :
    SS X W (.Assign [.Name y py] (.ListComp elt [⟨tg, iter, ifs, 0⟩] scope pos) spos) (cAsg (mLc mi g mt me (own.map (·.2))) (gNam i)) := by
  refine ps_imp (ps_setLc (g := gW X.K js g) (tt := tm X.K DnB W0 mt) (te := tm X.K (DnD X.K) W0 me) hc hN hy hyl hsw hi ok (fun s H C cl fp => gW_of (hg s H C cl fp)) (fun s H C cl fp => ht s H C cl fp) (fun s H C cl fp => he s H C cl fp) hs) fun D σ H q => ?_
  obtain ⟨ρ, M, env, Rl, E, q⟩ := q
  refine lc_imp (W := W) hj (andS_tm Rl E q fun d M1 ρ1 H1 v R1 E1 dv q1 => ?_)
  exact q1 ρ1 H1 _ (Stp.refl (K := X.K) (M := M1)) R1 (E1.set i dv)

/-! ### for, while -/
def forGo (g : D → En → Option En) (b : MS) : List D → MS
  | [], env, M => .nx env M
  | x :: xs, env, M => match g x env with
    | none => .err
    | some env' => match b env' M with
      | .nx e2 M2 => forGo g b xs e2 M2
      | .ct e2 M2 => forGo g b xs e2 M2
      | .bk e2 M2 => .nx e2 M2
      | .ret d M2 => .ret d M2
      | .exc c fs e2 M2 => .exc c fs e2 M2
      | .err => .err
def cFor (mi : MA) (g : D → En → Option En) (b : MS) : MS := fun env M => andS (mi env M) env fun items M1 => forGo g b items env M1
theorem c_for {tg iter : Expr} {body : List Stmt} {pos : Pos} {mi : MA} {js : List Nat} {g : D → En → Option En} {b : MS} (hp : PassesOwn (model X.prog X.w) X.A X.env X.xe) (hc : X.calm = true) (hi : SI X W tg iter mi) (hg : SG X tg js g) (hb : SB X W body b)
    (hs : ∀ x, foldedSetIterable iter X.env x = pure x := by intro _; rfl) : SS X W (.For tg iter body [] pos) (cFor mi g b) := by
  refine ps_imp (ps_for hp hc hi (gW_of hg) hb hs) fun D σ H q => ?_
  obtain ⟨ρ, M, env, Rl, E, q⟩ := q
  refine andS_tm Rl E q fun items M1 ρ1 H1 J R1 E1 wk q1 => ?_
  have wk' : Wk X.K ρ1 H1 J items := wk
  refine ⟨fun i m σ' H' => m = items.length - i ∧ i ≤ items.length ∧ ∃ ρ' M' env', Rel X.K ρ' M' H' ∧ Stp ρ1 H1 ρ' H' ∧ EnR X.K ρ' H' env' σ' ∧ OkS X.K ρ' H' W D (forGo g b (items.drop i) env' M'), ⟨items.length, by simp, Nat.zero_le _, ρ1, M1, env, R1, Stp.refl (K := X.K) (M := M1), E1, by rw [List.drop_zero]; exact q1⟩, ?_⟩
  rintro i m σ' H' ⟨rfl, hi', ρ', M', env', R', S', E', ok'⟩
  by_cases hlt : i < items.length
  · have hx : items[i]? = some items[i] := List.getElem?_eq_getElem hlt
    rw [drop_cons hx] at ok'
    refine .inr ⟨wk'.goes i ρ' M' H' hlt R' (S'.tr R1) (S'.fk R1), fun σ2 H2 => i + 1 ≤ items.length ∧ ∃ ρ2 M2 env2, Rel X.K ρ2 M2 H2 ∧ Stp ρ1 H1 ρ2 H2 ∧ EnR X.K ρ2 H2 env2 σ2 ∧ OkS X.K ρ2 H2 W D (forGo g b (items.drop (i + 1)) env2 M2), fun σ2 H2 p => ⟨items.length - (i + 1), by omega, rfl, p.1, p.2⟩, fun x H2 y => ?_⟩
    obtain ⟨R2, S2, dx⟩ := wk'.yields i ρ' M' H' x H2 items[i] hx R' (S'.tr R1) (S'.fk R1) y
    have okc := ok'.step S2
    unfold forGo at okc
    cases hgx : g items[i] env' with
    | none => rw [hgx] at okc; exact okc.elim
    | some env2 =>
      rw [hgx] at okc
      simp only at okc
      refine ⟨ρ', M', items[i], env', env2, R2, E'.step R' S2, dx, hgx, fun σ2 E2 _ _ => ⟨ρ', M', env2, R2, E2, ?_⟩⟩
      cases hb1 : b env2 M' with
      | nx e3 M3 =>
        rw [hb1] at okc
        exact fun ρ3 H3 σ3 S3 R3 E3 => ⟨hlt, ρ3, M3, e3, R3, (S'.trans S2).trans S3, E3, okc.step S3⟩
      | ct e3 M3 =>
        rw [hb1] at okc
        exact fun ρ3 H3 σ3 S3 R3 E3 => ⟨hlt, ρ3, M3, e3, R3, (S'.trans S2).trans S3, E3, okc.step S3⟩
      | bk e3 M3 => rw [hb1] at okc; exact okc
      | ret d M3 => rw [hb1] at okc; exact okc
      | exc c fs e3 M3 => rw [hb1] at okc; exact okc
      | err => rw [hb1] at okc; exact okc
  · have e : i = items.length := by omega
    subst e
    rw [List.drop_length] at ok'
    exact .inl ⟨wk'.stops ρ' M' H' R' (S'.tr R1) (S'.fk R1), ok' ρ' H' σ' (Stp.refl (K := X.K) (M := M')) R' E'⟩
def whGo (c : MT) (b : MS) : Nat → MS
  | 0, _, _ => .err
  | n + 1, env, M => andS (c env M) env fun k M1 => if k = true then match b env M1 with
      | .nx e2 M2 => whGo c b n e2 M2
      | .ct e2 M2 => whGo c b n e2 M2
      | .bk e2 M2 => .nx e2 M2
      | .ret d M2 => .ret d M2
      | .exc c fs e2 M2 => .exc c fs e2 M2
      | .err => .err
    else .nx env M1
def cWh (n : Nat) (c : MT) (b : MS) : MS := whGo c b n
theorem c_wh (n : Nat) {c : Expr} {body : List Stmt} {pos : Pos} {mc : MT} {b : MS} (hp : PassesOwn (model X.prog X.w) X.A X.env X.xe) (hc : ST X W c mc) (hb : SB X W body b) : SS X W (.While c body [] pos) (cWh n mc b) := by
  refine ps_imp (ps_while hp hc hb) fun D σ H q => ?_
  obtain ⟨ρ, M, env, Rl, E, q⟩ := q
  refine ⟨fun m σ' H' => ∃ ρ' M' env', Rel X.K ρ' M' H' ∧ EnR X.K ρ' H' env' σ' ∧ OkS X.K ρ' H' W D (whGo mc b m env' M'), ⟨n, ρ, M, env, Rl, E, q⟩, ?_⟩
  rintro m σ' H' ⟨ρ', M', env', R', E', ok'⟩
  cases m with
  | zero => exact ok'.elim
  | succ m =>
    unfold whGo at ok'
    refine andS_tm R' E' ok' fun k M1 ρ1 H1 v R1 E1 dv q1 => ?_
    cases (show k = v from dv)
    cases k with
    | false => exact q1 ρ1 H1 σ' (Stp.refl (K := X.K) (M := M1)) R1 E1
    | true =>
      show (if true = true then _ else _)
      rw [if_pos rfl]
      have q1 : OkS X.K ρ1 H1 W D (match b env' M1 with
        | .nx e2 M2 => whGo mc b m e2 M2
        | .ct e2 M2 => whGo mc b m e2 M2
        | .bk e2 M2 => .nx e2 M2
        | .ret d M2 => .ret d M2
        | .exc c fs e2 M2 => .exc c fs e2 M2
        | .err => .err) := q1
      refine ⟨fun σ2 H2 => ∃ ρ2 M2 env2, Rel X.K ρ2 M2 H2 ∧ EnR X.K ρ2 H2 env2 σ2 ∧ OkS X.K ρ2 H2 W D (whGo mc b m env2 M2), fun σ2 H2 p => ⟨m, Nat.lt_succ_self _, p⟩, ⟨ρ1, M1, env', R1, E1, ?_⟩⟩
      cases hb1 : b env' M1 with
      | nx e3 M3 =>
        rw [hb1] at q1
        exact fun ρ3 H3 σ3 S3 R3 E3 => ⟨ρ3, M3, e3, R3, E3, OkS.step S3 q1⟩
      | ct e3 M3 =>
        rw [hb1] at q1
        exact fun ρ3 H3 σ3 S3 R3 E3 => ⟨ρ3, M3, e3, R3, E3, OkS.step S3 q1⟩
      | bk e3 M3 => rw [hb1] at q1; exact q1
      | ret d M3 => rw [hb1] at q1; exact q1
      | exc c fs e3 M3 => rw [hb1] at q1; exact q1
      | err => rw [hb1] at q1; exact q1
end
end Mi

end

section
/-! Mi, tenth part: defs, what they promise, their calls. No text is being shown while they run. -/
namespace Mi
open PySem PySem.Spec PyProof.Rows L2

/-- a promise that is kept wherever nothing is being shown -/
structure FnG (P : Program) (w : World) (K : PySem.W.Frag) (mg : Str → Option Value) (base : Heap) (k : Nat) (f : Addr) (fd : FuncData) (ps : List Str) (sp : Sp) : Prop where
  len : ∀ vs H Q E, sp vs H Q E → vs.length = ps.length
  go : ∀ (A : Around) (outer : List Env) (s : Shared) (H : Hp) (args : Args) (us : List Value) (vs : List V) (Q : VK) (E : XK), Room k A → A.guards = some [] → Env0 P w K mg base A outer s H →
    BindsTo s fd args (ps.zip us) → Vals vs us → sp vs H Q E → codeAny (model P w) A (.call (.ref f) args) (CR (L2.CX P w) outer P w H s Q E) s
section
variable {P : Program} {w : World} {K : PySem.W.Frag} {mg : Str → Option Value} {base : Heap}
theorem FnG.mono {j k : Nat} {f : Addr} {fd : FuncData} {ps : List Str} {sp : Sp} (F : FnG P w K mg base j f fd ps sp) (h : j ≤ k) : FnG P w K mg base k f fd ps sp :=
  ⟨F.len, fun A outer s H args us vs Q E r => F.go A outer s H args us vs Q E (r.mono h)⟩
/-- by its body -/
theorem fng_of {k : Nat} {f : Addr} {x qual : Str} {params : Arguments} {body : List Stmt} {sc : Scope} {dvs : List V} {kws : List (Str × V)} {fd : FuncData} {N ps : List Str} {sp : Sp} (F : FunD K x qual params body sc dvs kws f fd) (S : FnScope N ps sc)
    (ln : ∀ vs H Q E, sp vs H Q E → vs.length = ps.length)
    (hb : ∀ (cdv : Value) (A : Around) (outer : List Env) (s : Shared) (H : Hp) (vs : List V) (Q : VK) (E : XK), Room k (A.deeper (envOfC qual sc s.heap.objs.size f cdv)) → A.guards = some [] → sp vs H Q E →
      ∃ t, PSs (cxOf (L2.CX P w) P w K mg base N qual sc f cdv A outer s H E) body t ∧ t { nx := fun _ H' => Q .non H', rt := Q } (start N vs) H) : FnG P w K mg base (k + 1) f fd ps sp := by
  obtain ⟨oc, od, dV, kV, doc, pm, an, cdv, ct, osl, rfl, lk, hcd, _, _⟩ := F.ex
  refine ⟨ln, fun A outer s H args us vs Q E rm gd e0 bt r hq => ?_⟩
  have inK : K.In s.heap := e0.mod.kin.keeps fun b o e => (e0.bs b o e).1
  have lmt : s.heap.NoLimit := e0.mod.nolimit.keeps fun b o e => (e0.bs b o e).1
  have par : ∀ y ∈ ps.zip us, sc.names.lookup y.1 = some .local ∨ (sc.names.lookup y.1 = some .cell ∧ ((cellsFrom (s.heap.objs.size + 1) sc.names []).lookup y.1).isSome = true) := by
    rintro ⟨n, v⟩ hy
    rcases S.par n (List.of_mem_zip hy).1 with z | z
    · exact .inl z
    · exact .inr ⟨z, PySem.W.cellsFrom_some _ _ _ (.inl z)⟩
  refine codeAny_call_function rm.depth (inK _ _ lk) rfl S.co S.gen rfl (PySem.W.codeRec_of inK hcd) (bt _ _ _ _ (wpAny_newFunctionEnv_cells S.kind par fun env he s1 x => ?_))
  subst he
  refine ⟨lmt.keeps x.toInCall.keep, codeAny_func ?_⟩
  obtain ⟨t, pt, q⟩ := hb cdv A outer s H vs Q E (rm.deeper _) gd hq
  have I0 : Inv (cxOf (L2.CX P w) P w K mg base N qual sc f cdv A outer s H E) [] (start N vs) H s1 := inv_start S rm.hd e0 (ln _ _ _ _ hq) r x
  refine wpAny_mono (pt.run [] s1 _ H _ I0 q) (fun fl s' h => ?_) fun _ _ h => h
  cases fl with
  | ret u =>
    obtain ⟨v, σ', H', J, rv, q⟩ := h
    exact ⟨v, H', J.os, J.bare, J.base, J.hok, rv, q⟩
  | next =>
    obtain ⟨σ', H', J, q⟩ := h
    exact ⟨.non, H', J.os, J.bare, J.base, J.hok, rfl, q⟩
  | brk =>
    obtain ⟨_, _, _, q⟩ := h
    exact q.elim
  | cont =>
    obtain ⟨_, _, _, q⟩ := h
    exact q.elim
end
/-- the callee runs; what it lets out is wished for -/
theorem run_g {X : Cx} {W : WX} {k : Nat} {f : Addr} {fd : FuncData} {ps : List Str} {sp : Sp} {pins : List (Addr × Obj)} {σ : L2.St} {H : Hp} {s : Shared} {Q : VK} {us zs : List Value} {kw : List (Str × Value)} {vs : List V} (F : FnG X.prog X.w X.K X.mg X.base k f fd ps sp)
    (rm : Room k X.A) (gd : X.A.guards = some []) (tk : Takes X W) (I : Inv X pins σ H s) (bt : BindsTo s fd ⟨us, kw⟩ (ps.zip zs)) (r : Vals vs zs) (h : sp vs H Q (fun c d H' => W c d σ H')) :
    wpAny (model X.prog X.w) X.A (call (.ref f) us kw) (EP X pins σ Q) X.xe s := by
  refine wpAny_call (codeAny_mono (F.go X.A X.stack s H ⟨us, kw⟩ zs vs Q _ rm gd I.env0 bt r h) fun res s' hq => ?_)
  cases res with
  | error e => exact tk e s' (XE.of_call I (fun _ _ _ z => z) hq)
  | ok fl =>
    cases fl with
    | ret u => exact I.after hq
    | next => exact hq.elim
    | brk => exact hq.elim
    | cont => exact hq.elim

/-! ### a def as a function on data -/
abbrev MF := List D → MH → R D
def spM (K : PySem.W.Frag) (n : Nat) (m : MF) : Sp := fun vs H Q E => vs.length = n ∧ ∃ ρ M ds, Rel K ρ M H ∧ Dens K ρ H ds vs ∧ Ok K ρ H (DnD K) (fun c d H' => E c d H') Q (m ds M)
/-- a body with so many slots -/
def mFn (n : Nat) (b : MS) : MF := fun ds M => match b (ds.map some ++ List.replicate (n - ds.length) none) M with
  | .nx _ M' => .ok .non M'
  | .ret d M' => .ok d M'
  | .exc c fs _ M' => .exc c fs M'
  | _ => .err
theorem en_start {K : PySem.W.Frag} {ρ : Rho} {H : Hp} {N : List Str} {ds : List D} {vs : List V} (h : Dens K ρ H ds vs) : EnR K ρ H (ds.map some ++ List.replicate (N.length - ds.length) none) (L2.start N vs) := by
  have hl := h.length
  refine ⟨by unfold L2.start; rw [List.length_append, List.length_append, List.length_map, List.length_map, List.length_replicate, List.length_replicate, hl], fun i d e => ?_⟩
  unfold L2.start
  by_cases hi : i < ds.length
  · rw [List.getElem?_append_left (by simpa using hi), List.getElem?_map] at e
    obtain ⟨d', h1, h2⟩ := Option.map_eq_some_iff.mp e
    cases h2
    obtain ⟨v, g1, g2⟩ := h.get h1
    refine ⟨v, ?_, g2⟩
    rw [List.getElem?_append_left (by simpa [← hl] using hi), List.getElem?_map, g1]
    rfl
  · rw [List.getElem?_append_right (by simpa using hi), List.getElem?_replicate] at e
    split at e <;> cases e
/-- a def of the text that is m -/
structure Fm (P : Program) (w : World) (K : PySem.W.Frag) (mg : Str → Option Value) (base : Heap) (k : Nat) (x : Str) (st : Stmt) (dvs : List V) (kws : List (Str × V)) (ps : List Str) (m : MF) : Prop where
  ex : ∃ f fd, mg x = some (.ref f) ∧ FunD K x x (defArgs st) (defBody st) (defScope st) dvs kws f fd ∧ FnG P w K mg base k f fd ps (spM K ps.length m)
theorem Fm.mono {P : Program} {w : World} {K : PySem.W.Frag} {mg : Str → Option Value} {base : Heap} {j k : Nat} {x : Str} {st : Stmt} {dvs : List V} {kws : List (Str × V)} {ps : List Str} {m : MF} (F : Fm P w K mg base j x st dvs kws ps m) (h : j ≤ k) : Fm P w K mg base k x st dvs kws ps m :=
  let ⟨f, fd, a, b, c⟩ := F.ex; ⟨f, fd, a, b, c.mono h⟩
/-- where a def of the text stands -/
def At (K : PySem.W.Frag) (mg : Str → Option Value) (x : Str) (st : Stmt) (dvs : List V) (kws : List (Str × V)) : Prop := ∃ f fd, mg x = some (.ref f) ∧ FunD K x x (defArgs st) (defBody st) (defScope st) dvs kws f fd
theorem fm_of {P : Program} {w : World} {K : PySem.W.Frag} {mg : Str → Option Value} {base : Heap} {k : Nat} {x : Str} {st : Stmt} {dvs : List V} {kws : List (Str × V)} {N ps : List Str} {b : MS} {n : Nat} (a : At K mg x st dvs kws) (S : FnScope N ps (defScope st)) (hn : N.length = n)
    (body : ∀ (X : Cx) (W : WX), X.prog = P → X.w = w → X.K = K → X.mg = mg → X.base = base → X.N = N → X.env.scope = defScope st → X.calm = true → X.fn = (fun _ => true) → Room k X.A → X.A.guards = some [] → Takes X W → X.stack = X.env :: X.outer → X.env.frame = some X.env.locals → X.ex = [] →
      PassesOwn (model X.prog X.w) X.A X.env X.xe → (∃ (qual : Str) (f : Addr) (cdv : Value) (A : Around) (outer : List Env) (s : Shared) (H : Hp) (E : XK), X = cxOf (L2.CX P w) P w K mg base N qual (defScope st) f cdv A outer s H E) → SB X W (defBody st) b) :
    Fm P w K mg base (k + 1) x st dvs kws ps (mFn n b) := by
  obtain ⟨f, fd, hm, F⟩ := a
  refine ⟨f, fd, hm, F, fng_of F S (fun vs H Q E h => h.1) fun cdv A outer s H vs Q E rm gd h => ?_⟩
  obtain ⟨hl, ρ, M, ds, Rl, dd, ok⟩ := h
  have hb := body (cxOf (L2.CX P w) P w K mg base N x (defScope st) f cdv A outer s H E) (fun cls d _ H => E cls d H) rfl rfl rfl rfl rfl rfl rfl rfl rfl rm gd (takes_of rfl rfl rfl rfl) rfl rfl rfl (passes_of rfl) ⟨x, f, cdv, A, outer, s, H, E, rfl⟩
  refine ⟨_, hb, ρ, M, ds.map some ++ List.replicate (n - ds.length) none, Rl, by rw [← hn]; exact en_start dd, ?_⟩
  unfold mFn at ok
  cases e : b (ds.map some ++ List.replicate (n - ds.length) none) M with
  | nx env M1 =>
    rw [e] at ok
    exact fun ρ1 H1 σ1 S1 R1 E1 => ok ρ1 H1 .non S1 R1 (den_non.mpr rfl)
  | ret d M1 => rw [e] at ok; exact ok
  | bk env M1 => rw [e] at ok; exact ok.elim
  | ct env M1 => rw [e] at ok; exact ok.elim
  | exc c fs env M1 =>
    rw [e] at ok
    exact fun ρ1 H1 d σ1 cv cn S1 R1 x1 _ => ok ρ1 H1 d cv cn S1 R1 x1
  | err => rw [e] at ok; exact ok.elim

/-! ### how arguments come to parameters -/
inductive Src where
  | p (i : Nat)
  | k (i : Nat)
  | d (i : Nat)
def pick {α : Type} (us ds ws : List α) : Src → Option α
  | .p i => us[i]?
  | .k i => ws[i]?
  | .d i => ds[i]?
def picks {α : Type} (us ds ws : List α) : List Src → Option (List α)
  | [] => some []
  | c :: cs => (pick us ds ws c).bind fun x => (picks us ds ws cs).map fun xs => x :: xs
theorem Paired.at {α β : Type} {F : α → β → Prop} {xs : List α} {ys : List β} (h : Paired F xs ys) {i : Nat} {x : α} (e : xs[i]? = some x) : ∃ y, ys[i]? = some y ∧ F x y := by
  induction h generalizing i with
  | nil => cases e
  | cons r _ ih =>
    cases i with
    | zero => cases e; exact ⟨_, rfl, r⟩
    | succ i => exact ih (i := i) e
theorem picks_rel {α β : Type} {F : α → β → Prop} {us ds ws : List α} {us' ds' ws' : List β} (h1 : Paired F us us') (h2 : Paired F ds ds') (h3 : Paired F ws ws') : ∀ {cs : List Src} {zs : List α}, picks us ds ws cs = some zs → ∃ zs', picks us' ds' ws' cs = some zs' ∧ Paired F zs zs'
  | [], zs, e => by cases e; exact ⟨[], rfl, .nil⟩
  | c :: cs, zs, e => by
    obtain ⟨x, e1, e2⟩ := Option.bind_eq_some_iff.mp e
    obtain ⟨xs, e3, e4⟩ := Option.map_eq_some_iff.mp e2
    subst e4
    obtain ⟨xs', g1, g2⟩ := picks_rel h1 h2 h3 e3
    have : ∃ y, pick us' ds' ws' c = some y ∧ F x y := by
      cases c with
      | p i => exact Paired.at h1 e1
      | k i => exact Paired.at h3 e1
      | d i => exact Paired.at h2 e1
    obtain ⟨y, g3, g4⟩ := this
    refine ⟨y :: xs', ?_, .cons g4 g2⟩
    show (pick us' ds' ws' c).bind _ = _
    rw [g3]
    show (picks us' ds' ws' cs).map _ = _
    rw [g1]
    rfl
theorem picks_len {α : Type} {us ds ws : List α} : ∀ {cs : List Src} {zs : List α}, picks us ds ws cs = some zs → zs.length = cs.length
  | [], zs, e => by cases e; rfl
  | c :: cs, zs, e => by
    obtain ⟨x, e1, e2⟩ := Option.bind_eq_some_iff.mp e
    obtain ⟨xs, e3, e4⟩ := Option.map_eq_some_iff.mp e2
    subst e4
    rw [List.length_cons, picks_len e3, List.length_cons]
/-- the defaults that fill up, and where each parameter comes from -/
def Bd (K : PySem.W.Frag) (fd : FuncData) (ps : List Str) (n : Nat) (ks : List Str) (dv : List V) (cs : List Src) : Prop :=
  ∃ mv : List Value, Vals dv mv ∧ ∀ (s : Shared) (us ws : List Value), K.In s.heap → us.length = n → ws.length = ks.length → ∃ zs, picks us mv ws cs = some zs ∧ BindsTo s fd ⟨us, ks.zip ws⟩ (ps.zip zs)
section
variable {K : PySem.W.Frag} {x qual : Str} {params : Arguments} {body : List Stmt} {scope : Scope} {kws : List (Str × V)} {f : Addr} {fd : FuncData} {ps ks : List Str} {n : Nat} {cs : List Src}
/-- nothing lacks -/
theorem bd_all (F : FunD K x qual params body scope [] kws f fd)
    (h : ∀ (kV doc pm : Value) (an : Option Addr) (cdv ct : Value) (us ws : List Value), us.length = n → ws.length = ks.length → ∃ zs, picks us [] ws cs = some zs ∧ bindArgs (PySem.W.fnOf x qual params body scope .none kV doc pm an cdv ct) ⟨us, ks.zip ws⟩ = pure (ps.zip zs)) : Bd K fd ps n ks [] cs := by
  obtain ⟨oc, od, dV, kV, doc, pm, an, cdv, ct, osl, rfl, lk, hcd, hD, hK⟩ := F.ex
  rcases hD with ⟨_, rfl⟩ | ⟨e, _⟩
  · refine ⟨[], .nil, fun s us ws X h1 h2 => ?_⟩
    obtain ⟨zs, e1, e2⟩ := h kV doc pm an cdv ct us ws h1 h2
    exact ⟨zs, e1, .of_eq e2⟩
  · exact absurd rfl e
/-- keyword-only ones lack: ms -/
theorem bd_kw (F : FunD K x qual params body scope [] kws f fd) (ms : List (Str × V)) (hm : ∀ q ∈ ms, q ∈ kws) (hk : kws ≠ [])
    (h : ∀ (Dk : Addr) (doc pm : Value) (an : Option Addr) (cdv ct : Value) (us ws mv : List Value), us.length = n → ws.length = ks.length → mv.length = ms.length →
      ∃ zs, picks us mv ws cs = some zs ∧ KwChain Dk ((ms.map (·.1)).zip mv) (bindArgs (PySem.W.fnOf x qual params body scope .none (.ref Dk) doc pm an cdv ct) ⟨us, ks.zip ws⟩) (ps.zip zs)) : Bd K fd ps n ks (ms.map (·.2)) cs := by
  obtain ⟨oc, od, dV, kV, doc, pm, an, cdv, ct, osl, rfl, lk, hcd, hD, hK⟩ := F.ex
  rcases hD with ⟨_, rfl⟩ | ⟨e, _⟩
  · rcases hK with e | ⟨Dk, rfl, hq⟩
    · exact absurd e hk
    · obtain ⟨mv, hl, rk, hv⟩ := kwd_vals (ms := ms) fun q hq' => hq q (hm q hq')
      refine ⟨mv, rk, fun s us ws X h1 h2 => ?_⟩
      obtain ⟨zs, e1, e2⟩ := h Dk doc pm an cdv ct us ws mv h1 h2 hl
      exact ⟨zs, e1, BindsTo.of_looks fun M => KwChain.looks X hv e2⟩
  · exact absurd rfl e
end

/-! ### calls -/
def FixS (K : PySem.W.Frag) (ds : List D) (vs : List V) : Prop := ∀ ρ H, Dens K ρ H ds vs
def SK (X : Cx) (W : WX) (kws : List Keyword) (m : MA) : Prop := PK X kws (tm X.K (DnA X.K) W m)
section
variable {X : Cx} {W : WX}
theorem k_nil : SK X W [] aNil := ⟨fun pos pins s σ H Q I h => pk_nil.run pos pins s σ H Q I (by
  obtain ⟨ρ, M, env, Rl, E, h⟩ := h
  exact h ρ H [] (Stp.refl (K := X.K) (M := M)) Rl (dens_nil.mpr rfl))⟩
theorem k_cons {nm : Option Str} {kpos : Pos} {e : Expr} {kws : List Keyword} {m : ME} {r : MA} (h1 : SE X W e m) (h2 : SK X W kws r) : SK X W (⟨nm, e, kpos⟩ :: kws) (aCons m r) :=
  ⟨fun pos pins s σ H Q I h => (pk_cons h1 h2).run pos pins s σ H Q I (by
    refine tm_bind (f := fun d env M1 => (r env M1).bind fun ds M2 => .ok (d :: ds) M2) h fun d M1 ρ1 H1 v env R1 E1 dv h => ?_
    refine ⟨ρ1, M1, env, R1, E1, h.bind fun ds M2 ρ2 H2 vs _ S R2 dd h => ?_⟩
    exact h ρ2 H2 (v :: vs) (Stp.refl (K := X.K) (M := M2)) R2 (dens_cons.mpr ⟨v, vs, rfl, Den.step R1 S _ _ dv, dd⟩))⟩
/-- the values are there: the def runs -/
theorem call_g {k : Nat} {f : Addr} {fd : FuncData} {ps ks : List Str} {n : Nat} {m : MF} {cs : List Src} {dv : List V} {dd : List D} {pins : List (Addr × Obj)} {σ : L2.St} {H : Hp} {s : Shared} {Q : VK} {us ws : List Value} {vs xs : List V} {ρ : Rho} {M : MH} {ds es : List D}
    (F : FnG X.prog X.w X.K X.mg X.base k f fd ps (spM X.K ps.length m)) (rm : Room k X.A) (gd : X.A.guards = some []) (tk : Takes X W) (bd : Bd X.K fd ps n ks dv cs) (fx : FixS X.K dd dv) (I : Inv X pins σ H s) (Rl : Rel X.K ρ M H) (r : Vals vs us) (r2 : Vals xs ws)
    (d1 : Dens X.K ρ H ds vs) (d2 : Dens X.K ρ H es xs) (hn : ds.length = n) (hk : es.length = ks.length) (hc : cs.length = ps.length)
    (h : Ok X.K ρ H (DnD X.K) (fun c d H' => W c d σ H') Q (match picks ds dd es cs with | some zs => m zs M | none => .err)) : wpAny (model X.prog X.w) X.A (call (.ref f) us (ks.zip ws)) (EP X pins σ Q) X.xe s := by
  obtain ⟨mv, rm', hb⟩ := bd
  obtain ⟨zs, e1, e2⟩ := hb s us ws I.kIn (by rw [← r.length, ← d1.length]; exact hn) (by rw [← r2.length, ← d2.length]; exact hk)
  cases e : picks ds dd es cs with
  | none => rw [e] at h; exact h.elim
  | some ys =>
    rw [e] at h
    obtain ⟨yv, g1, g2⟩ := picks_rel (dens_iff.mp d1) (dens_iff.mp (fx ρ H)) (dens_iff.mp d2) e
    obtain ⟨yu, g3, g4⟩ := picks_rel r rm' r2 g1
    rw [e1] at g3
    cases g3
    exact run_g F rm gd tk I e2 g4 ⟨(picks_len g1).trans hc, ρ, M, ys, Rl, dens_iff.mpr g2, h⟩
end
end Mi

end

section
/-! Mi, eleventh part: calls of the text's defs, of built-ins, of types. -/
namespace Mi
open PySem PySem.Spec PyProof.Rows L2

/-- what a def's body may lean on -/
structure Cg (X : Cx) (W : WX) (k : Nat) : Prop where
  rm : Room k X.A
  gd : X.A.guards = some []
  tk : Takes X W
theorem Cg.cf {X : Cx} {W : WX} {k : Nat} (c : Cg X W k) : Cf X := ⟨by have := c.rm.un; omega, c.gd⟩
theorem Cg.mono {X : Cx} {W : WX} {j k : Nat} (c : Cg X W k) (h : j ≤ k) : Cg X W j := ⟨c.rm.mono h, c.gd, c.tk⟩

/-! ### dead rows -/
def mErr : ME := fun _ _ => .err
def cErr : MS := fun _ _ => .err
section
variable {X : Cx} {W : WX}
theorem s_err {e : Expr} : SE X W e mErr := ⟨fun pins s σ H Q I h => by
  obtain ⟨ρ, M, env, Rl, E, h⟩ := h
  exact h.elim⟩
theorem c_err {st : Stmt} : SS X W st cErr := ⟨fun pins s σ H D I h => by
  obtain ⟨ρ, M, env, Rl, E, h⟩ := h
  exact h.elim⟩
end

/-! ### calls of defs -/
/-- what a def does with what a call gives -/
def callM (f : MF) (n nk : Nat) (cs : List Src) (dd us ws : List D) (M : MH) : R D := if us.length = n ∧ ws.length = nk then (match picks us dd ws cs with | some zs => f zs M | none => .err) else .err
def mCall (f : MF) (n nk : Nat) (cs : List Src) (dd : List D) (a b : MA) : ME := fun env M => (a env M).bind fun us M1 => (b env M1).bind fun ws M2 => callM f n nk cs dd us ws M2
section
variable {X : Cx} {W : WX} {k j : Nat} {x : Str} {st : Stmt} {dvs : List V} {kws : List (Str × V)} {ps ks : List Str} {m : MF} {n : Nat} {cs : List Src} {dv : List V} {dd : List D} {p pos : Pos} {e : Expr} {es : List Expr} {kw : List Keyword} {ma mb : MA}
abbrev Bds (X : Cx) (x : Str) (st : Stmt) (dvs : List V) (kws : List (Str × V)) (ps : List Str) (n : Nat) (ks : List Str) (dv : List V) (cs : List Src) : Prop :=
  ∀ f fd, FunD X.K x x (defArgs st) (defBody st) (defScope st) dvs kws f fd → Bd X.K fd ps n ks dv cs
theorem call_m {f : Addr} {fd : FuncData} {pins : List (Addr × Obj)} {σ : L2.St} {H : Hp} {s : Shared} {Q : VK} {us ws : List Value} {vs xs : List V} {ρ : Rho} {M : MH} {ds es : List D}
    (F : FnG X.prog X.w X.K X.mg X.base j f fd ps (spM X.K ps.length m)) (c : Cg X W k) (hj : j ≤ k) (bd : Bd X.K fd ps n ks dv cs) (fx : FixS X.K dd dv) (hc : cs.length = ps.length) (I : Inv X pins σ H s) (Rl : Rel X.K ρ M H) (r : Vals vs us) (r2 : Vals xs ws)
    (d1 : Dens X.K ρ H ds vs) (d2 : Dens X.K ρ H es xs)
    (h : Ok X.K ρ H (DnD X.K) (fun c d H' => W c d σ H') Q (callM m n ks.length cs dd ds es M)) : wpAny (model X.prog X.w) X.A (call (.ref f) us (ks.zip ws)) (EP X pins σ Q) X.xe s := by
  unfold callM at h
  split at h
  case isTrue g => exact call_g F (c.rm.mono hj) c.gd c.tk bd fx I Rl r r2 d1 d2 g.1 g.2 hc h
  case isFalse => exact h.elim
theorem s_call (F : Fm X.prog X.w X.K X.mg X.base j x st dvs kws ps m) (c : Cg X W k) (hj : j ≤ k) (bd : Bds X x st dvs kws ps n [] dv cs) (fx : FixS X.K dd dv) (ha : SA X W (e :: es) ma) (hg : Gl X x := by rfl) (hc : cs.length = ps.length := by rfl)
    (hdb : (x == ("__debug__" : Str)) = false := by decide) (he : starEach (e :: es) X.env = (false, eval e X.env) :: starEach es X.env := by rfl) (hpl : (backTo pos (starEach es X.env)).any (·.1) = false := by rfl) :
    SE X W (.Call (.Name x p) (e :: es) [] pos) (mCall m n 0 cs dd ma aNil) := by
  obtain ⟨f, fd, hm, F, G⟩ := F.ex
  refine ⟨fun pins s σ H Q I h => ?_⟩
  refine wpAny_Call_Name_kw (ld_glob I hg hm ?_ hdb)
  refine PySem.W.callWith_K (h₀ := X.base) I.ok.mod.kin F.kp (thn (ha.run pos pins s σ H (fun vs H1 => ∃ ρ M ds, Rel X.K ρ M H1 ∧ Dens X.K ρ H1 ds vs ∧ Ok X.K ρ H1 (DnD X.K) (fun c d H' => W c d σ H') Q (callM m n 0 cs dd ds [] M)) I ?_)
    fun us s1 ⟨vs, H1, I1, r, ρ, M, ds, Rl, d1, q⟩ => ⟨I1.kIn, ?_⟩) he hpl
  · refine tm_bind (f := fun ds env M1 => (aNil env M1).bind fun ws M2 => callM m n 0 cs dd ds ws M2) h fun ds M1 ρ1 H1 vs env R1 E1 d1 q => ⟨ρ1, M1, ds, R1, d1, q⟩
  · exact call_m (ks := []) (ws := []) (xs := []) (es := []) G c hj (bd f fd F) fx hc I1 Rl r .nil d1 (dens_nil.mpr rfl) q
theorem s_call0 (F : Fm X.prog X.w X.K X.mg X.base j x st dvs kws ps m) (c : Cg X W k) (hj : j ≤ k) (bd : Bds X x st dvs kws ps 0 [] dv cs) (fx : FixS X.K dd dv) (hg : Gl X x := by rfl) (hc : cs.length = ps.length := by rfl)
    (hdb : (x == ("__debug__" : Str)) = false := by decide) :
    SE X W (.Call (.Name x p) [] [] pos) (mCall m 0 0 cs dd aNil aNil) := by
  obtain ⟨f, fd, hm, F, G⟩ := F.ex
  refine ⟨fun pins s σ H Q I h => ?_⟩
  refine wpAny_Call_Name_kw (ld_glob I hg hm ?_ hdb)
  obtain ⟨ρ, M, env, Rl, E, h⟩ := h
  exact PySem.W.callWith_K0 I.kIn F.kp (call_m (ks := []) (us := []) (vs := []) (ds := []) (ws := []) (xs := []) (es := []) G c hj (bd f fd F) fx hc I Rl .nil .nil (dens_nil.mpr rfl) (dens_nil.mpr rfl) h)
theorem s_callK (F : Fm X.prog X.w X.K X.mg X.base j x st dvs kws ps m) (c : Cg X W k) (hj : j ≤ k) (bd : Bds X x st dvs kws ps n ks dv cs) (fx : FixS X.K dd dv) (ha : SA X W (e :: es) ma) (hk : SK X W kw mb) (hks : (backToKw pos (keywordEach kw X.env)).filterMap (·.1) = ks := by rfl) (hg : Gl X x := by rfl) (hc : cs.length = ps.length := by rfl)
    (hall : (backToKw pos (keywordEach kw X.env)).all (·.1.isSome) = true := by rfl)
    (hdb : (x == ("__debug__" : Str)) = false := by decide) (he : starEach (e :: es) X.env = (false, eval e X.env) :: starEach es X.env := by rfl)
    (hpl : ((backTo pos (starEach (e :: es) X.env)).any (·.1) || (backToKw pos (keywordEach kw X.env)).any (·.1.isNone)) = false := by rfl) :
    SE X W (.Call (.Name x p) (e :: es) kw pos) (mCall m n ks.length cs dd ma mb) := by
  obtain ⟨f, fd, hm, F, G⟩ := F.ex
  refine ⟨fun pins s σ H Q I h => ?_⟩
  refine wpAny_Call_Name_kw (ld_glob I hg hm ?_ hdb)
  refine PySem.W.callWith_KW (h₀ := X.base) I.ok.mod.kin F.kp hall (thn (ha.run pos pins s σ H (fun vs H1 => ∃ ρ M env ds, Rel X.K ρ M H1 ∧ EnR X.K ρ H1 env σ ∧ Dens X.K ρ H1 ds vs ∧ Ok X.K ρ H1 (DnD X.K) (fun c d H' => W c d σ H') Q ((mb env M).bind fun ws M2 => callM m n ks.length cs dd ds ws M2)) I ?_)
    fun us s1 ⟨vs, H1, I1, r, ρ, M, env, ds, Rl, E, d1, q⟩ => ?_) hpl he
  · refine tm_bind (f := fun ds env M1 => (mb env M1).bind fun ws M2 => callM m n ks.length cs dd ds ws M2) h fun ds M1 ρ1 H1 vs env R1 E1 d1 q => ⟨ρ1, M1, env, ds, R1, E1, d1, q⟩
  · refine thn (hk.run pos pins s1 σ H1 (fun xs H2 => ∃ ρ2 M2 es, Rel X.K ρ2 M2 H2 ∧ Dens X.K ρ2 H2 ds vs ∧ Dens X.K ρ2 H2 es xs ∧ Ok X.K ρ2 H2 (DnD X.K) (fun c d H' => W c d σ H') Q (callM m n ks.length cs dd ds es M2)) I1 ?_) fun ws s2 ⟨xs, H2, I2, r2, ρ2, M2, es2, R2, d1', d2, q2⟩ => ⟨I2.kIn, ?_⟩
    · exact ⟨ρ, M, env, Rl, E, q.bind fun es2 M2 ρ2 H2 xs _ S R2 d2 q2 => ⟨ρ2, M2, es2, R2, Dens.step Rl S _ _ d1, d2, q2⟩⟩
    · rw [hks]
      exact call_m G c hj (bd f fd F) fx hc I2 R2 r r2 d1' d2 q2
theorem s_callK0 (F : Fm X.prog X.w X.K X.mg X.base j x st dvs kws ps m) (c : Cg X W k) (hj : j ≤ k) (bd : Bds X x st dvs kws ps 0 ks dv cs) (fx : FixS X.K dd dv) (hk : SK X W kw mb) (hks : (backToKw pos (keywordEach kw X.env)).filterMap (·.1) = ks := by rfl) (hg : Gl X x := by rfl) (hc : cs.length = ps.length := by rfl)
    (hall : (backToKw pos (keywordEach kw X.env)).all (·.1.isSome) = true := by rfl)
    (hdb : (x == ("__debug__" : Str)) = false := by decide)
    (hpl : ((backTo pos (starEach [] X.env)).any (·.1) || (backToKw pos (keywordEach kw X.env)).any (·.1.isNone)) = false := by rfl) :
    SE X W (.Call (.Name x p) [] kw pos) (mCall m 0 ks.length cs dd aNil mb) := by
  obtain ⟨f, fd, hm, F, G⟩ := F.ex
  refine ⟨fun pins s σ H Q I h => ?_⟩
  refine wpAny_Call_Name_kw (ld_glob I hg hm ?_ hdb)
  refine PySem.W.callWith_KW0 (h₀ := X.base) I.ok.mod.kin F.kp hall (thn (hk.run pos pins s σ H (fun xs H2 => ∃ ρ2 M2 es, Rel X.K ρ2 M2 H2 ∧ Dens X.K ρ2 H2 es xs ∧ Ok X.K ρ2 H2 (DnD X.K) (fun c d H' => W c d σ H') Q (callM m 0 ks.length cs dd [] es M2)) I ?_) fun ws s2 ⟨xs, H2, I2, r2, ρ2, M2, es2, R2, d2, q2⟩ => ⟨I2.kIn, ?_⟩) hpl
  · obtain ⟨ρ, M, env, Rl, E, h⟩ := h
    exact ⟨ρ, M, env, Rl, E, Ok.bind (f := fun es M2 => callM m 0 ks.length cs dd [] es M2) h fun es2 M2 ρ2 H2 xs _ S R2 d2 q2 => ⟨ρ2, M2, es2, R2, d2, q2⟩⟩
  · rw [hks]
    exact call_m (us := []) (vs := []) (ds := []) G c hj (bd f fd F) fx hc I2 R2 .nil r2 (dens_nil.mpr rfl) d2 q2
end

/-! ### built-ins -/
def OpNR (X : Cx) (f : Value) (g : OpN) : Prop := ∀ ρ M H xs vs Q, Rel X.K ρ M H → Dens X.K ρ H xs vs → ROk X.K ρ H Q (g xs M) → ∃ r, CallR X f r ∧ r vs H Q
def QuietN (g : OpN) : Prop := ∀ xs M c fs M', g xs M ≠ .exc c fs M'
section
variable {X : Cx} {W : WX} {x : Str} {p pos : Pos} {e : Expr} {es : List Expr} {ma : MA} {g : OpN} {id : String}
theorem mN_o {f : Value} {σ : L2.St} {H : Hp} {Q : VK} (o : OpNR X f g) (q : QuietN g) (h : tm X.K (DnD X.K) W (mN g ma) σ H Q) : tm X.K (DnA X.K) W ma σ H (fun vs H1 => ∃ r, CallR X f r ∧ r vs H1 Q) := by
  refine tm_bind (f := fun xs env M1 => g xs M1) h fun xs M1 ρ1 H1 vs env R1 E1 d1 q1 => o ρ1 M1 H1 xs vs Q R1 d1 (ok_quiet (q xs M1) q1)
theorem s_blt (o : OpNR X (.builtin id) g) (q : QuietN g) (hm : X.mg x = none) (ha : SA X W (e :: es) ma) (hg : Gl X x := by rfl) (hv : bootBuiltins x = some (.builtin id) := by rfl) (hn : x ≠ "__name__" := by decide) (hdb : (x == ("__debug__" : Str)) = false := by decide)
    (he : starEach (e :: es) X.env = (false, eval e X.env) :: starEach es X.env := by rfl) (hpl : (backTo pos (starEach es X.env)).any (·.1) = false := by rfl) : SE X W (.Call (.Name x p) (e :: es) [] pos) (mN g ma) := by
  refine ⟨fun pins s σ H Q I h => ?_⟩
  refine wpAny_Call_Name_kw (ld_blt I hg hm hv ?_ hn hdb)
  exact PyProof.Rows.callWith_builtin1 (thn (ha.run pos pins s σ H _ I (mN_o o q h)) fun us s1 ⟨vs, H1, I1, r1, r, hr, q1⟩ => hr pins s1 σ H1 vs us Q I1 r1 q1) he hpl
theorem s_bty (o : OpNR X (.type id) g) (q : QuietN g) (hm : X.mg x = none) (ha : SA X W (e :: es) ma) (hg : Gl X x := by rfl) (hv : bootBuiltins x = some (.type id) := by rfl) (hn : x ≠ "__name__" := by decide) (hdb : (x == ("__debug__" : Str)) = false := by decide)
    (he : starEach (e :: es) X.env = (false, eval e X.env) :: starEach es X.env := by rfl) (hpl : (backTo pos (starEach es X.env)).any (·.1) = false := by rfl) : SE X W (.Call (.Name x p) (e :: es) [] pos) (mN g ma) := by
  refine ⟨fun pins s σ H Q I h => ?_⟩
  refine wpAny_Call_Name_kw (ld_blt I hg hm hv ?_ hn hdb)
  exact PyProof.Rows.callWith_type1 (thn (ha.run pos pins s σ H _ I (mN_o o q h)) fun us s1 ⟨vs, H1, I1, r1, r, hr, q1⟩ => hr pins s1 σ H1 vs us Q I1 r1 q1) he hpl
/-- a built-in type's name -/
theorem s_tynm {n : String} (hm : X.mg x = none) (hg : Gl X x := by rfl) (hv : bootBuiltins x = some (.type n) := by rfl) (hn : x ≠ "__name__" := by decide) (hdb : (x == ("__debug__" : Str)) = false := by decide) : SE X W (.Name x pos) (mC (.ty n)) :=
  s_const (pe_bltn hg hm hv (show RelV (.ty n) (.type n) from rfl) hn hdb) fun _ _ => den_ty.mpr rfl
end
end Mi

end

section
/-! Mi, twelfth part: len, isinstance, tuple, abs, sum, repr; slices. -/
namespace Mi
open PySem PySem.Spec PyProof.Rows L2
section
variable {X : Cx}
/-! ### a cell's list, read -/
theorem cell_lst {K : PySem.W.Frag} {ρ : Rho} {M : MH} {H : Hp} {l : Nat} {ds : List D} {v : V} (Rl : Rel K ρ M H) (d : Den K ρ H (.ref l) v) (hm : M[l]? = some (.lst ds)) : ∃ a xs, v = .ref a ∧ H a = some (.lst xs) ∧ Dens K ρ H ds xs := by
  obtain ⟨p, o, rfl, hl, ho⟩ := den_ref.mp d
  obtain ⟨b, xs, h1, h2, h3⟩ := Rl.obj l _ hm
  rw [hl] at h1
  cases h1
  have e := ho b rfl
  subst e
  exact ⟨_, xs, rfl, h2, h3⟩
theorem dens_one {K : PySem.W.Frag} {ρ : Rho} {H : Hp} {d : D} {vs : List V} (h : Dens K ρ H [d] vs) : ∃ v, vs = [v] ∧ Den K ρ H d v := by
  obtain ⟨v, r, rfl, h1, h2⟩ := dens_cons.mp h
  rw [dens_nil] at h2
  subst h2
  exact ⟨v, rfl, h1⟩
theorem dens_two {K : PySem.W.Frag} {ρ : Rho} {H : Hp} {d e : D} {vs : List V} (h : Dens K ρ H [d, e] vs) : ∃ v w, vs = [v, w] ∧ Den K ρ H d v ∧ Den K ρ H e w := by
  obtain ⟨v, r, rfl, h1, h2⟩ := dens_cons.mp h
  obtain ⟨w, rfl, h3⟩ := dens_one h2
  exact ⟨v, w, rfl, h1, h3⟩

/-! ### len -/
def lenD : OpN := fun xs M => match xs with
  | [.tup ds] => .ok (.int ds.length) M
  | [.lst ds] => .ok (.int ds.length) M
  | [.str z] => if z.length ≤ lim then .ok (.int z.length) M else .err
  | [.ref l] => match M[l]? with
    | some (.lst ds) => .ok (.int ds.length) M
    | _ => .err
  | _ => .err
theorem q_len : QuietN lenD := by
  intro x M c fs M' e
  unfold lenD at e
  (repeat' split at e) <;> cases e
theorem o_len : OpNR X (.builtin "len") lenD := by
  intro ρ M H xs vs Q Rl dv h
  unfold lenD at h
  split at h
  · obtain ⟨v, rfl, d⟩ := dens_one dv
    obtain ⟨a, ys, rfl, hs, hd⟩ := den_tup.mp d
    exact ⟨_, call_len_seq, a, ys, rfl, .inr hs, by rw [← hd.length]; exact here Rl h (den_int.mpr rfl)⟩
  · obtain ⟨v, rfl, d⟩ := dens_one dv
    obtain ⟨a, ys, rfl, hs, hd⟩ := den_lst.mp d
    exact ⟨_, call_len_seq, a, ys, rfl, .inl hs.sq, by rw [← hd.length]; exact here Rl h (den_int.mpr rfl)⟩
  · obtain ⟨v, rfl, d⟩ := dens_one dv
    rw [den_str] at d
    subst d
    split at h
    · rename_i z zl
      exact ⟨_, call_len_str, z, rfl, lim_le zl, here Rl h (den_int.mpr rfl)⟩
    · exact h.elim
  · obtain ⟨v, rfl, d⟩ := dens_one dv
    split at h
    · rename_i ds hm
      obtain ⟨a, ys, rfl, hs, hd⟩ := cell_lst Rl d hm
      exact ⟨_, call_len_seq, a, ys, rfl, .inl (SqL.of hs), by rw [← hd.length]; exact here Rl h (den_int.mpr rfl)⟩
    · exact h.elim
  · exact h.elim

/-! ### isinstance(x, T), T a built-in type -/
def tyName (M : MH) : D → Option String
  | .non => some "NoneType"
  | .bl _ => some "bool"
  | .int _ => some "int"
  | .str _ => some "str"
  | .tup _ => some "tuple"
  | .lst _ => some "list"
  | .dct _ _ => some "dict"
  | .ref l => match M[l]? with
    | some (.lst _) => some "list"
    | some (.dct _) => some "dict"
    | _ => none
  | _ => none
def tyNames : List String := ["NoneType", "bool", "int", "str", "tuple", "list", "dict"]
def isB (t n : String) : Bool := t == n || (t == "bool" && n == "int")
theorem isB_kit : ∀ t ∈ tyNames, ∀ n ∈ tyNames, kitB t n = some (isB t n) := by decide +kernel
theorem tyName_in {M : MH} {d : D} {t : String} (e : tyName M d = some t) : t ∈ tyNames := by
  unfold tyName at e
  split at e <;> first
    | (cases e; decide)
    | (split at e <;> first | (cases e; decide) | cases e)
    | cases e
theorem tyName_x {K : PySem.W.Frag} {ρ : Rho} {M : MH} {H : Hp} {d : D} {v : V} {t : String} (Rl : Rel K ρ M H) (dv : Den K ρ H d v) (e : tyName M d = some t) : TyX K H v (.type t) := by
  have tup : ∀ {a : Addr} {xs : List V}, SqT K H a xs → TyX K H (.ref a) (.type "tuple") := fun h => by
    rcases h with h | ⟨o, its, n, hk, hc, _⟩
    · rcases h with h | ⟨o, h⟩
      · exact .base (.tup h)
      · exact .fTuple h
    · exact .kTuple hk hc
  have lst : ∀ {a : Addr} {xs : List V}, SqL K H a xs → TyX K H (.ref a) (.type "list") := fun h => by
    rcases h with h | ⟨o, its, n, hk, hc, _⟩
    · rcases h with h | ⟨o, h⟩
      · exact .base (.lst h)
      · exact .base (.frz h)
    · exact .kList hk hc
  unfold tyName at e
  split at e
  · cases e; rw [den_non] at dv; subst dv; exact .base .non
  · cases e; rw [den_bl] at dv; subst dv; exact .base (.bl _)
  · cases e; rw [den_int] at dv; subst dv; exact .base (.int _)
  · cases e; rw [den_str] at dv; subst dv; exact .base (.str _)
  · cases e; obtain ⟨a, xs, rfl, hs, _⟩ := den_tup.mp dv; exact tup hs
  · cases e; obtain ⟨a, xs, rfl, hs, _⟩ := den_lst.mp dv; exact lst hs.sq
  · cases e
    obtain ⟨a, kvs, rfl, hs, _⟩ := den_dct.mp dv
    rcases hs with hs | ⟨o, hs⟩
    · exact .base (.dK hs)
    · exact .fDict hs
  · split at e
    · rename_i ds hm
      cases e
      obtain ⟨a, ys, rfl, hs, hd⟩ := cell_lst Rl dv hm
      exact .base (.lst hs)
    · rename_i kvs hm
      cases e
      obtain ⟨p, o, rfl, hl, ho⟩ := den_ref.mp dv
      obtain ⟨b, ks, h1, h2, h3⟩ := Rl.obj _ _ hm
      rw [hl] at h1
      cases h1
      have e := ho b rfl
      subst e
      exact .base (.dK h2)
    · cases e
  · cases e
def isiD : OpN := fun xs M => match xs with
  | [d, .ty n] => match tyName M d with
    | some t => if n ∈ tyNames then .ok (.bl (isB t n)) M else .err
    | none => .err
  | _ => .err
theorem q_isi : QuietN isiD := by
  intro x M c fs M' e
  unfold isiD at e
  (repeat' split at e) <;> cases e
theorem o_isi : OpNR X (.builtin "isinstance") isiD := by
  intro ρ M H xs vs Q Rl dv h
  unfold isiD at h
  split at h
  · rename_i d n
    obtain ⟨v, w, rfl, d1, d2⟩ := dens_two dv
    rw [den_ty] at d2
    subst d2
    split at h
    · rename_i t e
      split at h
      · rename_i hn
        exact ⟨_, call_isi, v, .ty n, .type t, .type n, isB t n, rfl, .ty n, tyName_x Rl d1 e, kit_ty (isB_kit t (tyName_in e) n hn), here Rl h (den_bl.mpr rfl)⟩
      · exact h.elim
    · exact h.elim
  · exact h.elim

/-! ### tuple(xs), abs(i) -/
def tupOfD : OpN := fun xs M => match xs with
  | [.tup ds] => .ok (.tup ds) M
  | [.lst ds] => .ok (.tup ds) M
  | [.ref l] => match M[l]? with
    | some (.lst ds) => .ok (.tup ds) M
    | _ => .err
  | _ => .err
theorem q_tupOf : QuietN tupOfD := by
  intro x M c fs M' e
  unfold tupOfD at e
  (repeat' split at e) <;> cases e
theorem o_tupOf : OpNR X (.type "tuple") tupOfD := by
  intro ρ M H xs vs Q Rl dv h
  unfold tupOfD at h
  split at h
  · obtain ⟨v, rfl, d⟩ := dens_one dv
    have d' := d
    obtain ⟨a, ys, rfl, hs, hd⟩ := den_tup.mp d
    exact ⟨_, call_tuple_of, a, ys, rfl, .inr ⟨hs, here Rl h d'⟩⟩
  · obtain ⟨v, rfl, d⟩ := dens_one dv
    obtain ⟨a, ys, rfl, hs, hd⟩ := den_lst.mp d
    exact ⟨_, call_tuple_of, a, ys, rfl, .inl ⟨hs.sq, newT Rl h hd⟩⟩
  · obtain ⟨v, rfl, d⟩ := dens_one dv
    split at h
    · rename_i ds hm
      obtain ⟨a, ys, rfl, hs, hd⟩ := cell_lst Rl d hm
      exact ⟨_, call_tuple_of, a, ys, rfl, .inl ⟨SqL.of hs, newT Rl h hd⟩⟩
    · exact h.elim
  · exact h.elim
def absD : OpN := fun xs M => match xs with
  | [.int i] => .ok (.int i.natAbs) M
  | _ => .err
theorem q_abs : QuietN absD := by
  intro x M c fs M' e
  unfold absD at e
  split at e <;> cases e
theorem o_abs : OpNR X (.builtin "abs") absD := by
  intro ρ M H xs vs Q Rl dv h
  unfold absD at h
  split at h
  · rename_i i
    refine ⟨_, call_abs, i, dens_ints_inv (ns := [i]) dv, ?_⟩
    have e : (if i < 0 then -i else i) = (i.natAbs : Int) := by split <;> omega
    rw [e]
    exact here Rl h (den_int.mpr rfl)
  · exact h.elim

/-! ### sum of whole numbers, in a list or a tuple -/
def intsD : List D → Option (List Int)
  | [] => some []
  | .int i :: ds => (intsD ds).map (i :: ·)
  | _ :: _ => none
theorem intsD_eq : ∀ {ds : List D} {ns : List Int}, intsD ds = some ns → ds = ns.map D.int
  | [], ns, e => by cases e; rfl
  | .int i :: ds, ns, e => by
    obtain ⟨ms, e1, e2⟩ := Option.map_eq_some_iff.mp (show (intsD ds).map (i :: ·) = some ns from e)
    subst e2
    rw [List.map_cons, intsD_eq e1]
  | .non :: _, _, e => by cases e
  | .bl _ :: _, _, e => by cases e
  | .str _ :: _, _, e => by cases e
  | .ty _ :: _, _, e => by cases e
  | .adr _ :: _, _, e => by cases e
  | .ref _ :: _, _, e => by cases e
  | .tup _ :: _, _, e => by cases e
  | .lst _ :: _, _, e => by cases e
  | .dct _ _ :: _, _, e => by cases e
  | .fn _ :: _, _, e => by cases e
  | .exo _ _ _ _ :: _, _, e => by cases e
theorem intsD_map (ns : List Int) : intsD (ns.map D.int) = some ns := by
  induction ns with
  | nil => rfl
  | cons n ns ih =>
    show (intsD (ns.map D.int)).map (n :: ·) = _
    rw [ih]
    rfl
def sumD : OpN := fun xs M => match xs with
  | [.lst ds] => match intsD ds with
    | some ns => .ok (.int ns.sum) M
    | none => .err
  | [.tup ds] => match intsD ds with
    | some ns => .ok (.int ns.sum) M
    | none => .err
  | _ => .err
theorem q_sum : QuietN sumD := by
  intro x M c fs M' e
  unfold sumD at e
  (repeat' split at e) <;> cases e
theorem sum_tup (hc : X.calm = true) : CallR X (.builtin "sum") (fun vs H Q => ∃ (a : Addr) (ns : List Int), vs = [V.ref a] ∧ SqT X.K H a (ns.map V.int) ∧ Q (.int ns.sum) H) := by
  intro pins s σ H vs us Q I r h
  obtain ⟨a, ns, rfl, hs, q⟩ := h
  obtain ⟨its, rv, ht, _⟩ := I.tuple hs
  rw [Vals.ref1 r]
  have hi : IntsAre its ns := intsAre_of rv
  obtain ⟨xs, e⟩ := hi.allInts.items
  have hn : numsOf (intItems xs).toList = ns := by rw [← e]; exact hi.numsOf
  rw [nums_intItems] at hn
  rw [e] at ht
  refine PySem.call_sum_walkG (PyProof.Rows.iter_tuple ht ?_)
  have hlt : a < s.heap.objs.size := by obtain ⟨_, e, _⟩ := ht; exact Heap.lt_size e
  have hh : X.A.in1.handled = none := I.ok.hd hc
  refine ⟨_, _, _, _, _, _, numAt xs, rfl, Walks.tuple (A := X.A.in1) hh _ a (Nat.ne_of_lt hlt) (intItems xs), ⟨⟨_, Heap.get?_push_size _ rfl, rfl, rfl⟩, ?_⟩, fun b hb => ?_, (fun _ _ => intItems_at), fun h' tk t' hk => ?_⟩
  · obtain ⟨o, e1, e2, e3⟩ := ht
    exact ⟨o, Heap.get?_push_of_some _ e1, e2, e3⟩
  · show b < (s.heap.push _).objs.size
    rw [Heap.size_push]
    rcases List.mem_cons.mp hb with e | hb
    · exact e ▸ Nat.lt_succ_self _
    · rcases List.mem_cons.mp hb with e | hb
      · exact e ▸ Nat.lt_succ_of_lt hlt
      · cases hb
  · have k : ∀ b o, s.heap.get? b = some o → h'.get? b = some o := fun b o e => by
      refine hk b o (fun hm => ?_) (Heap.get?_push_of_some _ e)
      rcases List.mem_cons.mp hm with e1 | hm
      · have z := Heap.lt_size e
        rw [e1] at z
        exact Nat.lt_irrefl _ z
      · cases hm
    refine ⟨.int _, H, I.kept k, ⟨_, rfl⟩, ?_⟩
    have e3 : preSum (numAt xs) (intItems xs).size = ns.sum := by
      rw [preSum_eq, List.take_of_length_le (by simp [intItems]), hn]
    rw [e3]
    exact q
theorem o_sum (hc : X.calm = true) : OpNR X (.builtin "sum") sumD := by
  intro ρ M H xs vs Q Rl dv h
  unfold sumD at h
  split at h
  · obtain ⟨v, rfl, d⟩ := dens_one dv
    obtain ⟨a, ys, rfl, hs, hd⟩ := den_lst.mp d
    split at h
    · rename_i ns e
      rw [intsD_eq e] at hd
      rw [dens_ints_inv hd] at hs
      exact ⟨_, cr_sum hc, a, ns, rfl, hs.sq, here Rl h (den_int.mpr rfl)⟩
    · exact h.elim
  · obtain ⟨v, rfl, d⟩ := dens_one dv
    obtain ⟨a, ys, rfl, hs, hd⟩ := den_tup.mp d
    split at h
    · rename_i ns e
      rw [intsD_eq e] at hd
      rw [dens_ints_inv hd] at hs
      exact ⟨_, sum_tup hc, a, ns, rfl, hs, here Rl h (den_int.mpr rfl)⟩
    · exact h.elim
  · exact h.elim
end
end Mi

end

section
/-! Mi, thirteenth part: repr, slices, tables of the text, items written. -/
namespace Mi
open PySem PySem.Spec PyProof.Rows L2

/-! ### repr of a tuple or a list of plain things -/
mutual
theorem py_noDict : ∀ d : D, PyData.hasDict (py d) = false
  | .non => rfl
  | .bl _ => rfl
  | .int _ => rfl
  | .str _ => rfl
  | .ty _ => rfl
  | .adr _ => rfl
  | .ref _ => rfl
  | .dct _ _ => rfl
  | .fn _ => rfl
  | .exo _ _ _ _ => rfl
  | .tup ds => by simp only [py, PyData.hasDict]; exact pys_noDict ds
  | .lst ds => by simp only [py, PyData.hasDict]; exact pys_noDict ds
theorem pys_noDict : ∀ ds : List D, PyData.hasDictAll (pys ds) = false
  | [] => rfl
  | d :: ds => by simp only [pys, PyData.hasDictAll, py_noDict d, pys_noDict ds, Bool.or_false]
end
def seqLike : D → Bool
  | .tup _ => true
  | .lst _ => true
  | _ => false
def shows (d : D) : Bool := flat d 60 && PyData.showable (py d) && decide ((PyData.shown (py d)).length ≤ lim)
def reprD : OpN := fun xs M => match xs with
  | [d] => if seqLike d && shows d then .ok (.str (PyData.shown (py d))) M else .err
  | _ => .err
theorem q_repr : QuietN reprD := by
  intro x M c fs M' e
  unfold reprD at e
  (repeat' split at e) <;> cases e
section
variable {X : Cx}
theorem cr_repr (c : Cf X) : CallR X (.builtin "repr") (fun xs H Q => ∃ a d, xs = [V.ref a] ∧ Dp X.K H (.ref a) d ∧ PyData.hasDict d = false ∧ PyData.showable d = true ∧ PyData.depth d ≤ 60 ∧ (PyData.shown d).length ≤ sizeLine ∧ Q (.str (PyData.shown d)) H) := by
  intro pins s σ H xs us Q I r h
  obtain ⟨a, d, rfl, dp, nd, sh, dd, hz, q⟩ := h
  rw [Vals.ref1 r]
  obtain ⟨as, rd⟩ := Dp.reads I d (.ref a) (.ref a) dp rfl
  exact repr_of_reads' rd sh (PyData.noDict_hsm nd) c.guards (by have := c.hu; omega) (fun _ _ e => e) (fun h' u tk hk => ⟨.str _, H, I.kept hk, ⟨_, rfl⟩, q⟩) hz
theorem o_repr (c : Cf X) : OpNR X (.builtin "repr") reprD := by
  intro ρ M H xs vs Q Rl dv h
  unfold reprD at h
  split at h
  · rename_i d
    obtain ⟨v, rfl, d1⟩ := dens_one dv
    split at h
    · rename_i z
      rw [Bool.and_eq_true] at z
      have z2 := z.2
      unfold shows at z2
      simp only [Bool.and_eq_true, decide_eq_true_eq] at z2
      have dp := flat_dp d 60 v z2.1.1 d1
      have hv : ∃ a, v = .ref a := by
        cases d <;> first
          | (cases z.1; done)
          | (obtain ⟨a, ys, rfl, _⟩ := den_tup.mp d1; exact ⟨a, rfl⟩)
          | (obtain ⟨a, ys, rfl, _⟩ := den_lst.mp d1; exact ⟨a, rfl⟩)
      obtain ⟨a, rfl⟩ := hv
      exact ⟨_, cr_repr c, a, py d, rfl, dp, py_noDict d, z2.1.2, (flat_can d 60 z2.1.1).2, lim_le z2.2, here Rl h (den_str.mpr rfl)⟩
    · exact h.elim
  · exact h.elim

/-! ### slices -/
abbrev MP := En → MH → R (Option Int)
abbrev DnO : Rho → Hp → Option Int → Option Int → Prop := fun _ _ a b => a = b
def SPa (X : Cx) (W : WX) (e : Option Expr) (m : MP) : Prop := PO X e (tm X.K DnO W m)
def mNoP : MP := fun _ M => .ok none M
def mPart (m : ME) : MP := fun env M => (m env M).bind fun d M1 => match d with
  | .int i => .ok (some i) M1
  | _ => .err
variable {W : WX}
theorem po_imp {e : Option Expr} {t t' : TO} (h : PO X e t) (i : ∀ σ H Q, t' σ H Q → t σ H Q) : PO X e t' := ⟨fun pins s σ H Q I q => h.run pins s σ H Q I (i σ H Q q)⟩
theorem p_no : SPa X W none mNoP := po_imp po_none fun σ H Q h => by
  obtain ⟨ρ, M, env, Rl, E, h⟩ := h
  exact h ρ H none (Stp.refl (K := X.K) (M := M)) Rl rfl
theorem p_some {e : Expr} {m : ME} (h : SE X W e m) : SPa X W (some e) (mPart m) := po_imp (po_some h) fun σ H Q h => by
  refine tm_bind (f := fun d env M1 => match d with | .int i => .ok (some i) M1 | _ => .err) h fun d M1 ρ1 H1 v env R1 E1 dv q => ?_
  split at q
  · rename_i i
    exact ⟨i, den_int.mp dv, q ρ1 H1 (some i) (Stp.refl (K := X.K) (M := M1)) R1 rfl⟩
  · exact q.elim
def cutD (ds : List D) (lo hi : Option Int) : List D := (ds.drop (HT.sIx ds.length 0 lo)).take (HT.sIx ds.length ds.length hi - HT.sIx ds.length 0 lo)
theorem Dens.cut {K : PySem.W.Frag} {ρ : Rho} {H : Hp} {ds : List D} {xs : List V} (h : Dens K ρ H ds xs) (lo hi : Option Int) : Dens K ρ H (cutD ds lo hi) (cutV xs lo hi) := by
  unfold cutD cutV
  rw [h.length]
  exact (h.drop _).take _
def sliceD (lo hi : Option Int) : Op1 := fun x M => match x with
  | .tup ds => .ok (.tup (cutD ds lo hi)) M
  | .lst ds => .ok (.lst (cutD ds lo hi)) M
  | .ref l => match M[l]? with
    | some (.lst ds) => .ok (.lst (cutD ds lo hi)) M
    | _ => .err
  | .str z => if z.length ≤ lim then .ok (.str (cutS z lo hi)) M else .err
  | _ => .err
theorem q_slice {lo hi : Option Int} {x : D} {M : MH} : ∀ c fs M', sliceD lo hi x M ≠ .exc c fs M' := by
  intro c fs M' e
  unfold sliceD at e
  (repeat' split at e) <;> cases e
def rSlD (K : PySem.W.Frag) : V → Option Int → Option Int → Hp → VK → Prop := fun x lo hi H Q => rSlA K x lo hi H Q ∨ rSlL K x lo hi H Q ∨ rSlS x lo hi H Q
theorem sl_D : SlR X (rSlD X.K) := sl_tupA.or (sl_list.or sl_str)
theorem cutD_all {ds : List D} {lo hi : Option Int} (h1 : HT.sIx ds.length 0 lo = 0) (h2 : HT.sIx ds.length ds.length hi = ds.length) : cutD ds lo hi = ds := by
  unfold cutD
  rw [h1, h2]
  simp
theorem o_slice {ρ : Rho} {M : MH} {H : Hp} {x : D} {v : V} {lo hi : Option Int} {Q : VK} (Rl : Rel X.K ρ M H) (dx : Den X.K ρ H x v) (h : ROk X.K ρ H Q (sliceD lo hi x M)) : rSlD X.K v lo hi H Q := by
  unfold sliceD at h
  split at h
  · rename_i ds
    have dx' := dx
    obtain ⟨a, xs, rfl, hs, hd⟩ := den_tup.mp dx
    refine .inl ⟨a, xs, rfl, hs, fun z => ?_, fun _ => newT Rl h (hd.cut lo hi)⟩
    rw [← hd.length] at z
    rw [cutD_all z.1 z.2] at h
    exact here Rl h dx'
  · obtain ⟨a, xs, rfl, hs, hd⟩ := den_lst.mp dx
    exact .inr (.inl ⟨a, xs, rfl, hs.sq, newL Rl h (hd.cut lo hi)⟩)
  · split at h
    · rename_i ds hm
      obtain ⟨a, ys, rfl, hs, hd⟩ := cell_lst Rl dx hm
      exact .inr (.inl ⟨a, ys, rfl, SqL.of hs, newL Rl h (hd.cut lo hi)⟩)
    · exact h.elim
  · rename_i z
    rw [den_str] at dx
    split at h
    · rename_i zl
      exact .inr (.inr ⟨z, dx, lim_le zl, here Rl h (den_str.mpr rfl)⟩)
    · exact h.elim
  · exact h.elim
def mSl (m : ME) (ml mh : MP) : ME := fun env M => (m env M).bind fun x M1 => (ml env M1).bind fun lo M2 => (mh env M2).bind fun hi M3 => sliceD lo hi x M3
theorem s_sl {e : Expr} {lo hi : Option Expr} {p2 pos : Pos} {m : ME} {ml mh : MP} (he : SE X W e m) (hl : SPa X W lo ml) (hh : SPa X W hi mh) : SE X W (.Subscript e (.Slice lo hi none p2) pos) (mSl m ml mh) := by
  refine pe_imp (pe_slice sl_D he hl hh) fun σ H Q h => ?_
  refine tm_bind (f := fun x env M1 => (ml env M1).bind fun lo M2 => (mh env M2).bind fun hi M3 => sliceD lo hi x M3) h fun x M1 ρ1 H1 v env R1 E1 dx h => ?_
  refine ⟨ρ1, M1, env, R1, E1, h.bind fun l M2 ρ2 H2 o _ S R2 eo h => ?_⟩
  obtain rfl : l = o := eo
  refine ⟨ρ2, M2, env, R2, E1.step R1 S, h.bind fun u M3 ρ3 H3 o' _ S' R3 eo' h => ?_⟩
  obtain rfl : u = o' := eo'
  exact o_slice R3 (Den.step R2 S' _ _ (Den.step R1 S _ _ dx)) (ok_quiet q_slice h)

/-! ### t[::-1] -/
theorem adjust_rev (n : Nat) : Builtin.Slice.sliceAdjust none none (-1) (n : Int) = ((n : Int) - 1, -1) := by
  unfold Builtin.Slice.sliceAdjust
  simp
theorem places_rev (n : Nat) : Builtin.Slice.slicePlaces ((n : Int) - 1) (-1) (-1) = n := by
  unfold Builtin.Slice.slicePlaces
  rw [if_neg (by decide)]
  split
  · rw [show (- -1 : Int) = 1 by decide, Int.ediv_one]
    omega
  · omega
theorem fm_map {α β : Type} {f : α → Option β} {g : α → β} : ∀ {l : List α}, (∀ x ∈ l, f x = some (g x)) → l.filterMap f = l.map g
  | [], _ => rfl
  | x :: l, h => by
    rw [List.filterMap_cons, h x (List.mem_cons_self ..), List.map_cons, fm_map fun y hy => h y (List.mem_cons_of_mem _ hy)]
theorem pick_rev (xs : Array Value) : ((List.range xs.size).filterMap fun (k : Nat) => xs[(((xs.size : Int) - 1) + (k : Int) * -1).toNat]?).toArray = xs.toList.reverse.toArray := by
  congr 1
  apply List.ext_getElem?
  intro i
  have e : (List.range xs.size).filterMap (fun (k : Nat) => xs[(((xs.size : Int) - 1) + (k : Int) * -1).toNat]?) = (List.range xs.size).map fun k => xs.getD (xs.size - 1 - k) .none := by
    refine fm_map fun k hk => ?_
    have hk' := List.mem_range.mp hk
    have e1 : (((xs.size : Int) - 1) + (k : Int) * -1).toNat = xs.size - 1 - k := by omega
    rw [e1]
    have hlt : xs.size - 1 - k < xs.size := by omega
    simp [Array.getD, hlt]
  rw [e, List.getElem?_map]
  by_cases hi : i < xs.size
  · rw [List.getElem?_range hi, List.getElem?_reverse (by simpa using hi)]
    have hlt : xs.size - 1 - i < xs.size := by omega
    simp [Array.getD, hlt]
  · rw [List.getElem?_eq_none (by simpa using hi), List.getElem?_eq_none (by simpa using hi)]
    rfl
theorem tup_rev {prog : Program} {w : World} {A : Around} {E : Value → Shared → Prop} {s : Shared} {t sl : Addr} {u : Tok} {items : Array Value} {Q : Value → Shared → Prop} (ht : IsTup s.heap t items) (hs : s.heap.IsSliceOf sl .none .none (.int (-1) u))
    (h : Q (.ref s.heap.objs.size) { s with heap := s.heap.push { cls := .type "tuple", data := .seq items.toList.reverse.toArray } })
    (hsz : items.size ≤ sizeLine) : wpAny (model prog w) A (getItem (.ref t) (.ref sl)) Q E s := by
  have fits : sizeOk (.seq items.toList.reverse.toArray) := by
    show items.toList.reverse.toArray.size ≤ sizeLine
    simpa using hsz
  obtain ⟨os, hos, hcs, hds⟩ := id hs
  have hTs : s.TypeIs (.ref sl) "slice" := ⟨os, hos, hcs⟩
  unfold getItem
  try with_reducible refine wpAny_holding ?_
  first | refine wpAny_bind (wpAny_pure ?_) | skip
  refine wpAny_bind (wpAny_sequenceKey ht.typeIs (by decide) ?_)
  refine wpAny_bind (wpAny_callSpecial?_slot (name := Str.ofString "__getitem__") ht.typeIs PyProof.Rows.slot_tuple_getitem
    (wpAny_call_entry PyProof.Rows.slot_tuple_getitem ht.typeIs entry_tuple_getitem ?_ (args_tuple_getitem _ _)))
  show wpAny _ _ (Builtin.Tuple.tupleItemsOf (.ref t) >>= _) _ _ s
  refine wpAny_bind (tupleItemsOf_ ht ?_)
  refine wpAny_bind (wpAny_typeOf hTs ?_)
  rw [if_pos (by decide)]
  have ap : ∀ {Q' : Int × Int × Nat → Shared → Prop}, Q' ((items.size : Int) - 1, -1, items.size) s → ∀ {A' : Around} {E' : Value → Shared → Prop}, wpAny (model prog w) A' (Builtin.Slice.sliceApplied (.ref sl) (pure (items.size : Int))) Q' E' s := fun {Q'} q {A' E'} => by
    unfold Builtin.Slice.sliceApplied Builtin.Slice.sliceFields
    refine wpAny_bind (wpAny_bind (wpAny_field hos hds (x := .none) rfl (wpAny_bind (wpAny_field hos hds (x := .none) rfl (wpAny_bind (wpAny_field hos hds (x := .int (-1) u) rfl (wpAny_pure ?_)))))))
    refine wpAny_bind (slicePart_int ?_)
    show wpAny _ _ (if ((-1 : Int) == 0) = true then _ else _) _ _ s
    rw [if_neg (by decide)]
    refine wpAny_bind (slicePart_none (wpAny_bind (slicePart_none (wpAny_bind (wpAny_pure ?_)))))
    show wpAny _ _ (match Builtin.Slice.sliceAdjust none none (-1) (items.size : Int) with | (lo, hi) => pure (lo, (-1 : Int), Builtin.Slice.slicePlaces lo hi (-1))) _ _ s
    rw [adjust_rev]
    show wpAny _ _ (pure ((items.size : Int) - 1, (-1 : Int), Builtin.Slice.slicePlaces ((items.size : Int) - 1) (-1) (-1))) _ _ s
    rw [places_rev]
    exact wpAny_pure q
  refine wpAny_bind (ap ?_)
  have hno : ¬ (((((items.size : Int) - 1) == 0) && ((-1 : Int) == 1) && (items.size == items.size)) = true) := by
    intro q
    rw [Bool.and_eq_true, Bool.and_eq_true] at q
    have q2 : ((-1 : Int) == 1) = true := q.1.2
    revert q2
    decide
  show wpAny _ _ (if (((((items.size : Int) - 1) == 0) && ((-1 : Int) == 1) && (items.size == items.size)) = true) then _ else _) _ _ s
  rw [if_neg hno, pick_rev]
  first
    | exact wpAny_bind (m := Builtin.Tuple.tupleExact _) (wpAny_newObj_type (wpAny_pure ⟨_, rfl, wpAny_pure h⟩) fits)
    | exact wpAny_bind (m := Builtin.Tuple.tupleExact _) (wpAny_newObj_type (wpAny_bind (wpAny_pure (wpAny_pure ⟨_, rfl, wpAny_pure h⟩))) fits)
    | exact wpAny_bind (wpAny_bind (m := Builtin.Tuple.tupleExact _) (wpAny_newObj_type (wpAny_pure (wpAny_pure ⟨_, rfl, wpAny_pure h⟩)) fits))
    | exact wpAny_bind (wpAny_bind (m := Builtin.Tuple.tupleExact _) (wpAny_newObj_type (wpAny_pure ⟨_, rfl, wpAny_pure h⟩) fits))
def revD : Op2 := fun x y M => match x, y with
  | .tup ds, .int i => if i = -1 then .ok (.tup ds.reverse) M else .err
  | _, _ => .err
theorem s_rev {e k : Expr} {p2 pos : Pos} {me mk : ME} (he : SE X W e me) (hk : SE X W k mk) (hn : evalPart (some k) X.env = eval k X.env := by rfl) (hs1 : ∀ o i, subscripted (.Slice none none (some k) p2) false o i = operate [o, i] (getItem o i) := by intro _ _; rfl) : SE X W (.Subscript e (.Slice none none (some k) p2) pos) (m2 revD me mk) := by
  refine ⟨fun pins s σ H Q I h => ?_⟩
  refine Subscript_ (thn (he.run pins s σ H (fun x H1 => ∃ ρ M env d, Rel X.K ρ M H1 ∧ EnR X.K ρ H1 env σ ∧ Den X.K ρ H1 d x ∧ Ok X.K ρ H1 (DnD X.K) (fun c d H' => W c d σ H') Q ((mk env M).bind fun y M2 => revD d y M2)) I ?_) fun v s1 ⟨x, H1, I1, r1, ρ, M, env, d, R1, E1, dx, q1⟩ => ?_)
  · exact tm_bind (f := fun x env M1 => (mk env M1).bind fun y M2 => revD x y M2) h fun x M1 ρ1 H1 v env R1 E1 dx h => ⟨ρ1, M1, env, x, R1, E1, dx, h⟩
  refine wpAny_Slice ?_
  rw [evalPart_none]
  refine wpAny_pure (wpAny_pure ?_)
  rw [hn]
  refine thn (hk.run pins s1 σ H1 (fun y H2 => ∃ a xs, x = .ref a ∧ SqT X.K H2 a xs ∧ y = .int (-1) ∧ ∀ p, H2 p = none → Q (.ref p) (upd H2 p (.tup xs.reverse))) I1 ?_) fun u s2 ⟨y, H2, I2, r2, a, xs, ex, hs, ey, q2⟩ => ?_
  · refine ⟨ρ, M, env, R1, E1, q1.bind fun y M2 ρ2 H2 w _ S R2 dy h => ?_⟩
    have dx2 := Den.step R1 S _ _ dx
    unfold revD at h
    split at h
    · rename_i ds i _
      obtain ⟨a, xs, rfl, hs, hd⟩ := den_tup.mp dx2
      split at h
      · rename_i ei
        subst ei
        exact ⟨a, xs, rfl, hs, den_int.mp dy, newT R2 h hd.reverse⟩
      · exact h.elim
    · exact h.elim
  · subst ex ey
    obtain rfl : v = Value.ref a := r1
    obtain ⟨t, rfl⟩ := r2
    have I4 : L2.Inv X pins σ H2 { s2 with heap := s2.heap.push { cls := .type "slice", data := .fields #[.none, .none, .int (-1) t] } } := I2.kept (t' := s2.toks) fun b ob q => Heap.get?_push_of_some _ q
    obtain ⟨its, r, ht, hz⟩ := I4.tuple hs
    have hlen : its.toArray.size = xs.length := by rw [List.size_toArray]; exact r.length.symm
    show wpAny (model X.prog X.w) X.A (subscriptTail e (.Slice none none (some k) p2) (.ref a) (.ref s2.heap.objs.size)) (EP X pins σ Q) X.xe { s2 with heap := s2.heap.push { cls := .type "slice", data := .fields #[.none, .none, .int (-1) t] } }
    refine tail_any (ops := [.ref a, .ref s2.heap.objs.size]) ht.typeIs PyProof.Rows.slot_tuple_getitem.lookup (tup_rev ht (Heap.IsSliceOf.new ..) ?_ (by rw [hlen]; exact hz)) (hs1 _ _)
    refine ⟨.ref _, _, I4.laid (t' := s2.toks) (o := .tup xs.reverse) (fun b ob q => Heap.get?_push_of_some _ q) (Nat.le_refl _) ?_, rfl, q2 _ (I4.hok.fresh (Nat.le_refl _))⟩
    exact ⟨by rw [List.length_reverse]; exact hz, _, r.reverse, IsTup.new _ _⟩
end
end Mi

end

section
/-! Mi, fourteenth part: tables of the text, items written, enumerate. -/
namespace Mi
open PySem PySem.Spec PyProof.Rows L2
section
variable {X : Cx} {W : WX}
/-! ### a table of the text: words to values -/
def KTab (K : PySem.W.Frag) (w : World) (p : Addr) (tbl : List (Str × D)) : Prop := ∀ q ∈ tbl, ∃ v, KDct K w p q.1 v ∧ Fix K q.2 v
def tabD (tbl : List (Str × D)) : Op1 := fun y M => match y with
  | .str z => match tbl.find? (fun q => decide (q.1 = z)) with
    | some q => .ok q.2 M
    | none => .err
  | _ => .err
theorem s_tab {x : Str} {p : Addr} {tbl : List (Str × D)} {b : Expr} {q pos : Pos} {mb : ME} (hm : X.mg x = some (.ref p)) (kt : KTab X.K X.w p tbl) (hb : SE X W b mb) (hg : Gl X x := by rfl) (hs : PlainIx b := by intro _ _; rfl) (hd : (x == ("__debug__" : Str)) = false := by decide) :
    SE X W (.Subscript (.Name x q) b pos) (m1 (tabD tbl) mb) := by
  refine pe_imp (pe_ix ix_kdict (pe_glob hg hm (show RelV (.ref p) (.ref p) from rfl) hd) hb hs) fun σ H Q h => ?_
  show tm X.K (DnD X.K) W mb σ H (fun y H2 => rIxD X.K X.w (.ref p) y H2 Q)
  refine tm_bind (f := fun y env M1 => tabD tbl y M1) h fun y M1 ρ1 H1 w env R1 E1 dy h => ?_
  unfold tabD at h
  split at h
  · rename_i z
    split at h
    · rename_i r e
      obtain ⟨v, k, f⟩ := kt r (List.mem_of_find?_eq_some e)
      have e2 : r.1 = z := by simpa using List.find?_some e
      subst e2
      exact ⟨p, r.1, v, rfl, den_str.mp dy, k, h ρ1 H1 v (Stp.refl (K := X.K) (M := M1)) R1 (f ρ1 H1)⟩
    · exact h.elim
  · exact h.elim

/-! ### items written -/
def putM {κ : Type} [DecidableEq κ] (kvs : List (κ × D)) (k : κ) (d : D) : List (κ × D) := if (kvs.any fun kv => decide (kv.1 = k)) = true then kvs.map (fun kv => if kv.1 = k then (kv.1, d) else kv) else kvs ++ [(k, d)]
theorem denP_any {κ : Type} [DecidableEq κ] {K : PySem.W.Frag} {ρ : Rho} {H : Hp} {ps : List (κ × D)} {qs : List (κ × V)} (h : DenP K ρ H ps qs) (k : κ) : (ps.any fun kv => decide (kv.1 = k)) = qs.any fun kv => decide (kv.1 = k) := by
  induction h with
  | nil => rfl
  | cons r _ ih => rw [List.any_cons, List.any_cons, ih, r.1]
theorem denP_sets {κ : Type} [DecidableEq κ] {K : PySem.W.Frag} {ρ : Rho} {H : Hp} {ps : List (κ × D)} {qs : List (κ × V)} {k : κ} {d : D} {v : V} (h : DenP K ρ H ps qs) (dv : Den K ρ H d v) :
    DenP K ρ H (ps.map fun kv => if kv.1 = k then (kv.1, d) else kv) (qs.map fun kv => if kv.1 = k then (kv.1, v) else kv) := by
  induction h with
  | nil => exact .nil
  | @cons p q ps qs r _ ih =>
    rw [List.map_cons, List.map_cons]
    refine .cons ?_ ih
    rw [← r.1]
    split
    · exact ⟨rfl, dv⟩
    · exact r
theorem denP_more {κ : Type} {K : PySem.W.Frag} {ρ : Rho} {H : Hp} {ps : List (κ × D)} {qs : List (κ × V)} {k : κ} {d : D} {v : V} (h : DenP K ρ H ps qs) (dv : Den K ρ H d v) : DenP K ρ H (ps ++ [(k, d)]) (qs ++ [(k, v)]) := by
  induction h with
  | nil => exact .cons ⟨rfl, dv⟩ .nil
  | cons r _ ih => exact .cons r ih
theorem denP_put {κ : Type} [DecidableEq κ] {K : PySem.W.Frag} {ρ : Rho} {H : Hp} {ps : List (κ × D)} {qs : List (κ × V)} {k : κ} {d : D} {v : V} (h : DenP K ρ H ps qs) (dv : Den K ρ H d v) : DenP K ρ H (putM ps k d) (putK qs k v) := by
  unfold putM putK
  rw [denP_any h k]
  split
  · exact denP_sets h dv
  · exact denP_more h dv
theorem dens_set {K : PySem.W.Frag} {ρ : Rho} {H : Hp} {d : D} {v : V} (dv : Den K ρ H d v) : ∀ {ds : List D} {xs : List V}, Dens K ρ H ds xs → ∀ j : Nat, Dens K ρ H (ds.set j d) (xs.set j v)
  | [], xs, h, j => by rw [dens_nil] at h; subst h; exact dens_nil.mpr rfl
  | e :: ds, xs, h, j => by
    obtain ⟨w, r, rfl, h1, h2⟩ := dens_cons.mp h
    cases j with
    | zero => exact dens_cons.mpr ⟨v, r, rfl, dv, h2⟩
    | succ j => exact dens_cons.mpr ⟨w, r.set j v, rfl, h1, dens_set dv h2 j⟩
def putD (o i d : D) (M : MH) : Option MH := match o with
  | .ref l => match M[l]? with
    | some (.lst ds) => match i with
      | .int k => match ixN ds.length k with
        | some j => some (M.set l (.lst (ds.set j d)))
        | none => none
      | _ => none
    | some (.dct kvs) => match keyOf i with
      | some k => if kvs.length < lim then some (M.set l (.dct (putM kvs k d))) else none
      | none => none
    | _ => none
  | _ => none
def cPut (mv mo mi : ME) : MS := fun env M => andS (mv env M) env fun d M1 => andS (mo env M1) env fun o M2 => andS (mi env M2) env fun i M3 => match putD o i d M3 with
  | some M4 => .nx env M4
  | none => .err
def rPut : TSet := fun o i v H Q => rSetL o i v H Q ∨ rSetD o i v H Q
theorem set_put (c : Cf X) : PSet X rPut := fun pins s σ H o i v ov iv u Q I ro ri rv h => by
  rcases h with h | h
  · exact set_list pins s σ H o i v ov iv u Q I ro ri rv h
  · exact set_dict (by have := c.hu; omega) pins s σ H o i v ov iv u Q I ro ri rv h
theorem o_put {ρ : Rho} {M M' : MH} {H : Hp} {o i d : D} {vo vi vd : V} {Q : Hp → Prop} (Rl : Rel X.K ρ M H) (d1 : Den X.K ρ H o vo) (d2 : Den X.K ρ H i vi) (d3 : Den X.K ρ H d vd) (e : putD o i d M = some M') (h : ∀ H', Stp ρ H ρ H' → Rel X.K ρ M' H' → Q H') : rPut vo vi vd H Q := by
  unfold putD at e
  split at e
  · rename_i l
    obtain ⟨p, u, rfl, hl, ho⟩ := den_ref.mp d1
    split at e
    · rename_i ds hm
      obtain ⟨b, xs, h1, h2, h3⟩ := Rl.obj l _ hm
      have hl2 := h1
      rw [hl] at h1
      cases h1
      have ep := ho b rfl
      subst ep
      split at e
      · rename_i k
        rw [den_int] at d2
        subst d2
        split at e
        · rename_i j ej
          cases e
          have S : Stp ρ H ρ (upd H b (.lst (xs.set j vd))) := Stp.write hl2
          refine .inl ⟨b, xs, k, j, rfl, rfl, h2, by rw [← h3.length]; exact ej, h _ S (Rl.write hl2 ⟨b, xs.set j vd, hl2, upd_same, ?_⟩)⟩
          exact Dens.step Rl S _ _ (dens_set d3 h3 j)
        · cases e
      · cases e
    · rename_i kvs hm
      obtain ⟨b, ks, h1, h2, h3⟩ := Rl.obj l _ hm
      have hl2 := h1
      rw [hl] at h1
      cases h1
      have ep := ho b rfl
      subst ep
      split at e
      · rename_i k hk
        split at e
        · rename_i hz
          cases e
          have S : Stp ρ H ρ (upd H b (.dK (putK ks k vd))) := Stp.write hl2
          have hlen : ks.length < sizeLine := by
            rw [← Paired.length h3]
            exact lim_lt hz
          rw [keyOf_v hk d2]
          refine .inr ⟨b, _, rfl, DPut.k h2 hlen, h _ S (Rl.write hl2 ⟨b, putK ks k vd, hl2, upd_same, ?_⟩)⟩
          exact DenP.step Rl S (denP_put h3 d3)
        · cases e
      · cases e
    · cases e
  · cases e
/-- as andS_tm, and how far the heap has come -/
theorem andS_stp {α β : Type} {K : PySem.W.Frag} {dn : Rho → Hp → α → β → Prop} {D : Ends} {σ : L2.St} {H : Hp} {ρ : Rho} {M : MH} {env : En} {m : En → MH → R α} {f : α → MH → RS} {Q : β → Hp → Prop} (Rl : Rel K ρ M H) (E : EnR K ρ H env σ)
    (h : OkS K ρ H W D (andS (m env M) env f))
    (k : ∀ a M1 ρ1 H1 v, Stp ρ H ρ1 H1 → Rel K ρ1 M1 H1 → EnR K ρ1 H1 env σ → dn ρ1 H1 a v → OkS K ρ1 H1 W D (f a M1) → Q v H1) : tm K dn W m σ H Q := by
  refine ⟨ρ, M, env, Rl, E, ?_⟩
  cases e : m env M with
  | err => rw [e] at h; exact h
  | exc c fs M1 =>
    rw [e] at h
    exact fun ρ1 H1 d cv cn S R1 x => h ρ1 H1 d σ cv cn S R1 x (E.step Rl S)
  | ok a M1 =>
    rw [e] at h
    have h' : OkS K ρ H W D (f a M1) := h
    exact fun ρ1 H1 v S R1 dv => k a M1 ρ1 H1 v S R1 (E.step Rl S) dv (h'.step S)
theorem c_put (c : Cf X) {o i e : Expr} {p2 pos : Pos} {mo mi mv : ME} (hv : SE X W e mv) (ho : SE X W o mo) (hi : SE X W i mi)
    (ha : ∀ v, assign (.Subscript o i p2) X.env v = (do
      let ov ← holding [v] (eval o X.env)
      let iv ← holding [v, ov] (eval i X.env)
      standAt p2
      holding [v, ov, iv] (setItem ov iv v)
      release [v, ov, iv] []) := by intro _; rfl)
    (hs : swapsWithSole [.Subscript o i p2] e pos.line X.env = pure false := by rfl) (hw : swappedStores [.Subscript o i p2] e X.env = pure none := by rfl)
    (h1 : (assignEach [.Subscript o i p2] X.env).map (·.2) = [assign (.Subscript o i p2) X.env] := by rfl) : SS X W (.Assign [.Subscript o i p2] e pos) (cPut mv mo mi) := by
  refine ps_imp (ps_asg hv (pg_sub ho hi (set_put c) ha) hs hw h1) fun D σ H q => ?_
  obtain ⟨ρ, M, env, Rl, E, q⟩ := q
  refine andS_stp Rl E q fun d M1 ρ1 H1 v S1 R1 E1 dv q1 => ?_
  refine andS_stp R1 E1 q1 fun o M2 ρ2 H2 w S2 R2 E2 dw q2 => ?_
  refine andS_stp R2 E2 q2 fun i M3 ρ3 H3 x S3 R3 E3 dx q3 => ?_
  split at q3
  · rename_i M4 e
    exact o_put R3 (Den.step R2 S3 _ _ dw) dx (Den.step R2 S3 _ _ (Den.step R1 S2 _ _ dv)) e fun H' S R' => q3 ρ3 H' σ S R' (E3.step R3 S)
  · exact q3.elim
end
end Mi

end

section
/-! Mi, fifteenth part: enumerate over a tuple, from any number. -/
namespace Mi
open PySem PySem.Spec PyProof.Rows L2
/-- the tuple at a, each item in a new pair with its number -/
def iteT (K : PySem.W.Frag) (a : Addr) (k0 : Int) : It :=
  ⟨fun i H => ∃ (xs : List V) (x : V), SqT K H a xs ∧ xs[i]? = some x, fun i H v H' => ∃ T x, v = .ref T ∧ H T = none ∧ H' = upd H T (.tup [.int (k0 + (i : Int)), x]) ∧ ∀ xs, SqT K H a xs → xs[i]? = some x, fun i H => ∃ xs : List V, SqT K H a xs ∧ xs.length = i⟩
theorem tup_inj {X : Cx} {pins : List (Addr × Obj)} {σ : L2.St} {H : Hp} {s : Shared} {a : Addr} {xs ys : List V} (I : L2.Inv X pins σ H s) (h : SqT X.K H a xs) (h' : SqT X.K H a ys) : xs = ys := by
  obtain ⟨its, r, ⟨o, e, _, n, d⟩, _⟩ := I.tuple h
  obtain ⟨its', r', ⟨o', e', _, n', d'⟩, _⟩ := I.tuple h'
  rw [e] at e'
  cases e'
  rw [d] at d'
  injection d' with d1 _
  have e2 : its = its' := by simpa using congrArg Array.toList d1
  subst e2
  exact Vals.inj r r'
theorem turn_iteT {P : Program} {w : World} {K : PySem.W.Frag} {elts : List Expr} {kk : Nat} {tpos : Pos} (a e it : Addr) (k0 : Int) (hae : a ≠ e) (hai : a ≠ it) :
    Turn P w K (.Tuple elts kk tpos) (iteT K a k0) [e, it] e (fun i h => (∃ old, IsEnum h e it (k0 + (i : Int)) old) ∧ h.IsTupleIter it a i ∧ e ≠ it) where
  mem := by simp
  obj := fun i h st b hb => by
    obtain ⟨⟨old, he⟩, ⟨o, ho, hc, hd⟩, _⟩ := st
    have e' : b = e ∨ b = it := by simpa using hb
    rcases e' with z | z
    · rw [z]; exact ⟨_, he, fun v q => nomatch q⟩
    · rw [z]; exact ⟨o, ho, fun v q => by rw [hd] at q; cases q⟩
  keep := fun i h h' st k => let ⟨⟨old, he⟩, hi, hne⟩ := st; ⟨⟨old, k e (by simp) _ he⟩, hi.at fun o q => k it (by simp) o q, hne⟩
  item := by
    intro X hP hw hK hc i pins s σ H E I hf st hg
    subst hP hw hK
    obtain ⟨⟨old, he⟩, hit, hne⟩ := st
    obtain ⟨xs, x, hq, hx⟩ := hg
    obtain ⟨its, rv, ht, hz⟩ := I.tuple hq
    obtain ⟨u, hu, ru⟩ := rv.get hx
    have hel : e < s.heap.objs.size := Heap.lt_size he
    have hil : it < s.heap.objs.size := by obtain ⟨_, q, _⟩ := hit; exact Heap.lt_size q
    have hlt : i < its.toArray.size := by
      have := (List.getElem?_eq_some_iff.mp hu).1
      simpa using this
    have hh : X.A.in1.handled = none := I.ok.hd hc
    have itp : s.heap.IsTuple a its.toArray := by
      obtain ⟨o, e1, e2, e3⟩ := ht
      exact ⟨o, e1, e2, e3⟩
    refine wpAny_pyNext_enum_itemC (Draws.tuple (A := X.A.in1) hh it a hai its.toArray) he ⟨hit, itp⟩ hlt hne (by simp [hne, Ne.symm hae]) fun y h' tk hP ho hs' hT hsz hk => ?_
    have ey : y = u := by
      have : its.toArray[i]? = some y := hP
      rw [List.getElem?_toArray, hu] at this
      exact (Option.some.inj this).symm
    subst ey
    refine ⟨_, rfl, wpAny_letOwnedTupleGo_enum (s := { s with heap := h', toks := tk + 1 }) ho fun h'' he' sb => ?_⟩
    have hT2 : h''.get? s.heap.objs.size = some { cls := .type "tuple", data := .seq #[.int (k0 + (i : Int)) tk, y] } := (sb.2 _ (Nat.ne_of_gt hel)).trans hT
    have new : ObjOk X.prog X.w (upd H s.heap.objs.size (.tup [.int (k0 + (i : Int)), x])) h'' s.heap.objs.size (.tup [.int (k0 + (i : Int)), x]) :=
      ⟨by show 2 ≤ sizeLine; decide, [.int (k0 + (i : Int)) tk, y], .cons ⟨_, rfl⟩ (.cons ru .nil), ⟨_, hT2, rfl, _, rfl⟩⟩
    have I1 : L2.Inv X pins σ (upd H s.heap.objs.size (.tup [.int (k0 + (i : Int)), x])) { s with heap := h'', toks := tk + 1 } :=
      I.turnedNew (ch := [e, it]) (fun b ob hb q => (sb.2 b (fun z => hb (by simp [z]))).trans (hk b ob (fun z => hb (by simp [z])) (fun z => hb (by simp [z])) q)) hf (Nat.le_refl _) new
    refine ⟨.ref s.heap.objs.size, _, I1, rfl, ⟨_, x, rfl, I.hok.fresh (Nat.le_refl _), rfl, fun ys hy => by rw [tup_inj I hy hq]; exact hx⟩, ⟨⟨y, ?_⟩, hs'.1.at fun o q => (sb.2 it (Ne.symm hne)).trans q, hne⟩, fun b hb => ?_⟩
    · have e1 : k0 + ((i + 1 : Nat) : Int) = k0 + (i : Int) + 1 := by omega
      rw [e1]; exact he'
    · have hb' : b < s.heap.objs.size := by
        have e' : b = e ∨ b = it := by simpa using hb
        rcases e' with z | z
        · rw [z]; exact hel
        · rw [z]; exact hil
      rw [upd_ne (Nat.ne_of_lt hb')]
      exact (hf b hb).1
  done := by
    intro X hP hw hK hc i pins s σ H E I hf st hg
    subst hP hw hK
    obtain ⟨⟨old, he⟩, hit, hne⟩ := st
    obtain ⟨xs, hq, hx⟩ := hg
    obtain ⟨its, rv, ht, hz⟩ := I.tuple hq
    obtain ⟨f0, f1, f2, f3, f4, f5⟩ := hf it (by simp)
    have hl := rv.length
    have hn : its.toArray.size = i := by rw [List.size_toArray, ← hl]; exact hx
    have hh : X.A.in1.handled = none := I.ok.hd hc
    have itp : s.heap.IsTuple a its.toArray := by
      obtain ⟨o, e1, e2, e3⟩ := ht
      exact ⟨o, e1, e2, e3⟩
    refine wpAny_pyNext_enum_endD (Draws.tuple (A := X.A.in1) hh it a hai its.toArray) he ⟨by rw [hn]; exact hit, itp⟩ fun h' eb => ⟨rfl, ?_⟩
    exact I.turned (t' := s.toks) (fun b o hb q => eb b o hb q) f0 f1 f3 f4 f5
  self := fun A i s Q E st h => let ⟨⟨_, he⟩, _⟩ := st; wpAny_pyIter_enum he h
/-- pairs of numbers and items -/
def enumL : Int → List D → List D
  | _, [] => []
  | k, d :: ds => .tup [.int k, d] :: enumL (k + 1) ds
theorem enumL_len : ∀ {k : Int} {ds : List D}, (enumL k ds).length = ds.length
  | _, [] => rfl
  | k, d :: ds => congrArg (· + 1) (enumL_len (k := k + 1) (ds := ds))
theorem enumL_get : ∀ {ds : List D} {k : Int} {i : Nat} {d : D}, (enumL k ds)[i]? = some d → ∃ e, ds[i]? = some e ∧ d = .tup [.int (k + (i : Int)), e]
  | [], k, i, d, h => by cases h
  | e :: ds, k, 0, d, h => by
    cases h
    exact ⟨e, rfl, by simp⟩
  | e :: ds, k, i + 1, d, h => by
    obtain ⟨f, h1, h2⟩ := enumL_get (ds := ds) (k := k + 1) (i := i) h
    refine ⟨f, h1, ?_⟩
    rw [h2]
    have e1 : k + 1 + (i : Int) = k + ((i + 1 : Nat) : Int) := by omega
    rw [e1]
theorem wk_enum {K : PySem.W.Frag} {ρ : Rho} {M : MH} {H : Hp} {a : Addr} {ds : List D} {xs : List V} {k0 : Int} (Rl : Rel K ρ M H) (hs : SqT K H a xs) (hd : Dens K ρ H ds xs) : Wk K ρ H (iteT K a k0) (enumL k0 ds) where
  goes := fun i ρ' M' H' hi R' S _ => by
    rw [enumL_len, hd.length] at hi
    exact ⟨xs, xs[i], SqT.tr S hs, by simp [hi]⟩
  stops := fun ρ' M' H' R' S _ => ⟨xs, SqT.tr S hs, by rw [enumL_len, hd.length]⟩
  yields := fun i ρ' M' H' x H'' d hd' R' S _ y => by
    obtain ⟨e, h1, h2⟩ := enumL_get hd'
    subst h2
    obtain ⟨v, h3, h4⟩ := hd.get h1
    obtain ⟨T, z, rfl, hn, rfl, hz⟩ := y
    have e2 := hz xs (SqT.tr S hs)
    rw [h3] at e2
    cases e2
    have h5 := Den.tr S _ _ h4
    exact ⟨R'.alloc hn, Stp.alloc hn, den_newT R' hn (dens_cons.mpr ⟨_, _, rfl, den_int.mpr rfl, dens_cons.mpr ⟨_, _, rfl, h5, dens_nil.mpr rfl⟩⟩)⟩
def enumD (k0 : Int) : List D → MH → R (List D) := fun xs M => match xs with
  | [.tup ds] => .ok (enumL k0 ds) M
  | _ => .err
/-! what enumerate(v) makes, v told by its iterator -/
abbrev enumO (it : Addr) : Obj := { cls := .type "enumerate", data := .fields #[.none, .bool false, .ref it, rawInt 0, .none, .none] }
set_option maxHeartbeats 1000000 in
theorem meets_enum1 {v : Value} {o : Obj} {Hy : Heap → Prop} (B : Begins v o Hy) :
    Meets (Builtin.«enumerate.__new__» ⟨[.type "enumerate", v], []⟩) (fun _ R s => Hy s.heap ∧ R (.ok (.ret (.ref (s.heap.push o).objs.size))) { s with heap := (s.heap.push o).push (enumO s.heap.objs.size) }) :=
  .of_wp fun prog w A R ⟨hp, g, d, tk, os⟩ ⟨h1, h2⟩ => by
    have sb := sub_enumerate
    have go : ∀ {A2 : Around} {E2 : Value → Shared → Prop} {Q2 : Value → Shared → Prop}, Q2 (.ref hp.objs.size) ⟨hp.push o, g, d, tk, os⟩ → wpAny (model prog w) A2 (pyIter v) Q2 E2 ⟨hp, g, d, tk, os⟩ := fun q => B.iter prog w _ _ ⟨hp, g, d, tk, os⟩ _ h1 q
    wp_walk using go
    refine wpAny_stack_any fun stk => wpAny_pure ?_
    split
    · rename_i cc _ _ _ _ _
      cases (cc == Value.type "enumerate") <;> (wp_walk using go; exact ⟨_, rfl, h2⟩)
    · wp_walk using go; exact ⟨_, rfl, h2⟩
theorem enum_new {prog : Program} {w : World} {A : Around} {E : Value → Shared → Prop} {s : Shared} {v : Value} {o : Obj} {Hy : Heap → Prop} {Q : Value → Shared → Prop} (B : Begins v o Hy) (h1 : Hy s.heap)
    (h : ∀ h2, IsEnum h2 (s.heap.objs.size + 1) s.heap.objs.size 0 .none → h2.get? s.heap.objs.size = some o → (∀ b u, s.heap.get? b = some u → h2.get? b = some u) → Q (.ref (s.heap.objs.size + 1)) { s with heap := h2 }) : wpAny (model prog w) A (call (.type "enumerate") [v]) Q E s := by
  refine callType_new F.called_enumerate (by decide) (F.typeCall_enumerate_1 _) (F.newCall_enumerate_1 _) (fun ob => F.args_object_init_2 ob _) F.entry_enumerate_new (meets_enum1 B) ⟨h1, ?_⟩
  have z : (s.heap.push o).objs.size = s.heap.objs.size + 1 := Heap.size_push ..
  show _ ∧ _
  rw [z]
  have he : IsEnum ((s.heap.push o).push (enumO s.heap.objs.size)) (s.heap.objs.size + 1) s.heap.objs.size 0 .none := by
    have := Heap.get?_push_size (s.heap.push o) (o := enumO s.heap.objs.size) rfl
    rw [z] at this
    exact this
  exact ⟨⟨_, he, rfl⟩, h _ he (Heap.get?_push_of_some _ (Heap.get?_push_size _ B.free)) fun b u x => Heap.get?_push_of_some _ (Heap.get?_push_of_some _ x)⟩
section
variable {X : Cx} {W : WX}
theorem call_enum {pins : List (Addr × Obj)} {σ : L2.St} {H : Hp} {s : Shared} {tg : List Expr} {kk : Nat} {tpos : Pos} {a : Addr} {xs : List V} {k : Int} {Rr : It → Hp → Prop} (I : L2.Inv X pins σ H s) (hq : SqT X.K H a xs) (q : Rr (iteT X.K a k) H) (h' : Heap)
    (he : IsEnum h' (s.heap.objs.size + 1) s.heap.objs.size k .none) (hit : h'.get? s.heap.objs.size = some { cls := .type "tuple_iterator", data := .fields #[.ref a, .int 0 0] }) (hk : ∀ b o, s.heap.get? b = some o → h'.get? b = some o) :
    PIE X pins σ (.Tuple tg kk tpos) Rr (.ref (s.heap.objs.size + 1)) { s with heap := h' } := by
  have I2 : L2.Inv X pins σ H { s with heap := h' } := I.kept (t' := s.toks) hk
  obtain ⟨its, rv, ht, hz⟩ := I.tuple hq
  have hal : a < s.heap.objs.size := by obtain ⟨_, e, _⟩ := ht; exact Heap.lt_size e
  refine ⟨s.heap.objs.size + 1, [s.heap.objs.size + 1, s.heap.objs.size], _, _, H, rfl, I2, turn_iteT a (s.heap.objs.size + 1) s.heap.objs.size k (Nat.ne_of_lt (Nat.lt_succ_of_lt hal)) (Nat.ne_of_lt hal), ⟨⟨.none, ?_⟩, ⟨_, hit, rfl, rfl⟩, Nat.succ_ne_self _⟩, fun b hb => ?_, q⟩
  · show IsEnum h' _ _ (k + ((0 : Nat) : Int)) _
    have : k + ((0 : Nat) : Int) = k := by omega
    rw [this]
    exact he
  · have e' : b = s.heap.objs.size + 1 ∨ b = s.heap.objs.size := by simpa using hb
    have hle : s.heap.objs.size ≤ b := by
      rcases e' with z | z
      · rw [z]; exact Nat.le_add_right _ _
      · rw [z]; exact Nat.le_refl _
    exact I.fpOk hle (I.hok.fresh hle)
theorem tup_is {pins : List (Addr × Obj)} {σ : L2.St} {H : Hp} {s : Shared} {a : Addr} {xs : List V} (I : L2.Inv X pins σ H s) (h : SqT X.K H a xs) : ∃ its : Array Value, s.heap.IsTuple a its := by
  obtain ⟨its, rv, ⟨o, e1, e2, e3⟩, hz⟩ := I.tuple h
  exact ⟨its.toArray, o, e1, e2, e3⟩
theorem enum_o {k : Int} {ds : List D} {vs : List V} {ρ : Rho} {M : MH} {H : Hp} {Q : It → Hp → Prop} {Wf : Value → Option Addr → Hp → Prop} (R1 : Rel X.K ρ M H) (dv : Dens X.K ρ H ds vs) (q : Ok X.K ρ H (DnI X.K) Wf Q (enumD k ds M)) : ∃ a xs, vs = [.ref a] ∧ SqT X.K H a xs ∧ Q (iteT X.K a k) H := by
  unfold enumD at q
  split at q
  · obtain ⟨v, rfl, d⟩ := dens_one dv
    obtain ⟨a, xs, rfl, hs, hd⟩ := den_tup.mp d
    exact ⟨a, xs, rfl, hs, q ρ H _ (Stp.refl (K := X.K) (M := M)) R1 (wk_enum R1 hs hd)⟩
  · exact q.elim
/-- over enumerate(t) -/
theorem i_enum {e : Expr} {ma : MA} {p pos tpos : Pos} {elts : List Expr} {kk : Nat} (hm : X.mg "enumerate" = none) (ha : SA X W [e] ma) (hg : Gl X "enumerate" := by rfl) (hs : starEach [e] X.env = (false, eval e X.env) :: starEach [] X.env := by rfl) :
    SI X W (.Tuple elts kk tpos) (.Call (.Name "enumerate" p) [e] [] pos) (mI (enumD 0) ma) := by
  refine ⟨fun pins s σ H Rr I h => ?_⟩
  refine Call_ (ld_blt I hg hm boot_enumerate (PyProof.Rows.callWith_type1 (thn (ha.run pos pins s σ H (fun vs H1 => ∃ a xs, vs = [.ref a] ∧ SqT X.K H1 a xs ∧ Rr (iteT X.K a 0) H1) I ?_) fun us s1 ⟨vs, H1, I1, r1, a, xs, ex, hq, q⟩ => ?_) hs rfl))
  · obtain ⟨ρ, M, env, Rl, E, h⟩ := h
    exact ⟨ρ, M, env, Rl, E, h.bind fun ds M1 ρ1 H1 vs _ S R1 dv q1 => enum_o R1 dv q1⟩
  subst ex
  rw [Vals.ref1 r1]
  obtain ⟨its, ht⟩ := tup_is I1 hq
  exact enum_new (begins_tuple a its) ht fun h' he hit hk => wpAny_pyIter_enum he (call_enum I1 hq q h' he hit hk)
/-- over enumerate(t, start=k) -/
theorem i_enumK {e : Expr} {k : Int} {j : Tok} {ma : MA} {p pos tpos kp kp2 : Pos} {elts : List Expr} {kk : Nat} (hm : X.mg "enumerate" = none) (ha : SA X W [e] ma) (hk0 : -(2 ^ 63) ≤ k) (hk1 : k < 2 ^ 63) (hg : Gl X "enumerate" := by rfl)
    (hs : starEach [e] X.env = (false, eval e X.env) :: starEach [] X.env := by rfl) (hall : (backToKw pos (keywordEach [⟨some (Str.ofString "start"), .Constant (.int k) j kp, kp2⟩] X.env)).all (·.1.isSome) = true := by rfl)
    (hks : (backToKw pos (keywordEach [⟨some (Str.ofString "start"), .Constant (.int k) j kp, kp2⟩] X.env)).filterMap (·.1) = [Str.ofString "start"] := by rfl)
    (hpl : ((backTo pos (starEach [e] X.env)).any (·.1) || (backToKw pos (keywordEach [⟨some (Str.ofString "start"), .Constant (.int k) j kp, kp2⟩] X.env)).any (·.1.isNone)) = false := by rfl) :
    SI X W (.Tuple elts kk tpos) (.Call (.Name "enumerate" p) [e] [⟨some (Str.ofString "start"), .Constant (.int k) j kp, kp2⟩] pos) (mI (enumD k) ma) := by
  refine ⟨fun pins s σ H Rr I h => ?_⟩
  refine wpAny_Call_Name_kw (ld_blt I hg hm boot_enumerate ?_)
  refine PySem.W.callWith_of (P := fun _ => True) hpl (fun h _ => ⟨.machine, .inr (.inl rfl), .now⟩) (evalArgs_kw2 hall (thn (ha.run pos pins s σ H (fun vs H1 => ∃ a xs, vs = [.ref a] ∧ SqT X.K H1 a xs ∧ Rr (iteT X.K a k) H1) I ?_) fun us s1 ⟨vs, H1, I1, r1, a, xs, ex, hq, q⟩ => ?_) hs)
  · obtain ⟨ρ, M, env, Rl, E, h⟩ := h
    exact ⟨ρ, M, env, Rl, E, h.bind fun ds M1 ρ1 H1 vs _ S R1 dv q1 => enum_o R1 dv q1⟩
  subst ex
  rw [Vals.ref1 r1]
  refine thn ((pk_cons (pe_int (i := k) (j := j) (pos := kp)) pk_nil).run pos pins s1 σ H1 (fun ws H2 => ws = [V.int k] ∧ H2 = H1) I1 ⟨rfl, rfl⟩) fun ws s2 ⟨zs, H2, I2, rz, ez, eh⟩ => ⟨True.intro, ?_⟩
  subst ez eh
  rw [hks]
  cases rz with
  | cons r rr =>
    cases rr
    obtain ⟨t, rfl⟩ := r
    obtain ⟨its, ht⟩ := tup_is I2 hq
    exact enum_begins_start (begins_tuple a its) ht hk0 hk1 fun h' he hit hsz hk => wpAny_pyIter_enum he (call_enum I2 hq q h' he hit hk)
end
end Mi

end

section
/-! Mi, sixteenth part: the end: a law's def as a function on data, behind the head. -/
namespace Mi
open PySem PySem.Spec PyProof.Rows L2
section
variable {P : Program} {w : World} {K : PySem.W.Frag} {mg mb : Str → Option Value} {k : Nat} {fa a : Addr} {fd : FuncData} {x : Str} {m : MF} {s1 : Shared} {vs : List Value} {ns : List Int}
/-- what the head wants of the law's call -/
abbrev EndsSo (s1 : Shared) : Result → Shared → Prop := fun r s2 => r = .ok (.ret (.bool true)) ∧ OldK s1.heap s2.heap ∧ s2.os = s1.os ∧ AllBare s2.gens
theorem rel0 {H : Hp} : Rel K ⟨[], []⟩ [] H := ⟨rfl, fun _ h => (by cases h), fun _ _ _ h => (by cases h), fun _ _ h => (by cases h)⟩
/-- from a heap in which at most the script is known -/
theorem end_core (KX : K.In s1.heap) (gl : s1.heap.Ns mainGlobals mg) (bl : s1.heap.Ns builtinsNs mb) (bb : ∀ z : Str, z ≠ "__name__" → mb z = bootBuiltins z) (nl : s1.heap.NoLimit) (gn : s1.gens = #[])
    (sc : s1.heap.get? a = some { cls := .type "list", data := .seq vs.toArray }) (rm : Room k callerA)
    (F : ∀ base : Heap, K.In base → base.Ns mainGlobals mg → FnG P w K mg base k fa fd [x] (spM K 1 m)) (bt : ∀ (s : Shared) (u : Value), BindsTo s fd ⟨[u], []⟩ [(x, u)])
    {M' : MH} (hm : m [.lst (ns.map D.int)] [] = .ok (.bl true) M') (H : Hp) (only : ∀ b, H b = none ∨ b = a ∧ K.lookup a = none ∧ ∃ o xs, H b = some (.frz o (.lst xs))) (hok : HOk P w H s1.heap) (dn : Den K ⟨[], []⟩ H (.lst (ns.map D.int)) (.ref a)) :
    codeAny (model P w) callerA (.call (.ref fa) ⟨[.ref a], []⟩) (EndsSo s1) s1 := by
  have old : ∀ {b : Addr} {o : Obj}, s1.heap.get? b = some o → H b = none → (hidT s1.heap H).get? b = some o := fun e n => hidT_get e n
  have notA : ∀ {b : Addr} {o : Obj} {es : Array DictEntry} {ep : Nat}, s1.heap.get? b = some o → o.data = .dict es ep → H b = none := fun {b o es ep} e dd => by
    rcases only b with z | ⟨rfl, _, _⟩
    · exact z
    · rw [sc] at e
      cases e
      exact nomatch (show Data.seq vs.toArray _ = Data.dict es ep from dd)
  have nsOld : ∀ {b : Addr} {f : Str → Option Value}, s1.heap.Ns b f → (hidT s1.heap H).Ns b f := fun ⟨o, es, ep, e, dd, r⟩ => ⟨o, es, ep, old e (notA e dd), dd, r⟩
  have kb : K.In (hidT s1.heap H) := fun b o e => old (KX b o e) (by
    rcases only b with z | ⟨rfl, z, _⟩
    · exact z
    · rw [z] at e; cases e)
  have md : Mod K mg (hidT s1.heap H) := ⟨kb, nsOld gl, ⟨mb, nsOld bl, bb⟩, nl.elim fun mc h => ⟨mc, nsOld h.1, h.2⟩⟩
  have e0 : Env0 P w K mg (hidT s1.heap H) callerA [] s1 H := ⟨rfl, md, fun b o e => of_hidT e, Nat.le_of_eq (hidT_size _ _), trivial, fun b hb => absurd (show b ∈ ([] : List Addr) from hb) (by simp), hok, .of_eq gn⟩
  have go := (F _ kb (nsOld gl)).go callerA [] s1 H ⟨[.ref a], []⟩ [.ref a] [.ref a] (fun v _ => v = .bl true) (fun _ _ _ => False) rm rfl e0 (bt s1 (.ref a)) (.cons rfl .nil)
    ⟨rfl, ⟨[], []⟩, [], [.lst (ns.map D.int)], rel0, dens_cons.mpr ⟨_, _, rfl, dn, dens_nil.mpr rfl⟩, by
      rw [hm]
      exact fun ρ' H' v _ _ dv => den_bl.mp dv⟩
  refine codeAny_mono go fun r s2 h => ?_
  cases r with
  | error e =>
    obtain ⟨_, _, _, _, _, _, _, _, _, _, _, _, z⟩ := (show L2.CX P w [] H s1 (fun _ _ _ => False) e s2 from h)
    exact z.elim
  | ok fl =>
    cases fl with
    | ret u =>
      obtain ⟨v, H', os, bare, un, hok', r', q⟩ := h
      cases (show v = .bl true from q)
      cases (show u = Value.bool true from r')
      refine ⟨rfl, OldK.of_keep fun b o e => ?_, os, bare⟩
      rcases only b with z | ⟨_, _, ob, xs, z⟩
      · exact un.keep b o e z (fun y => absurd (show b ∈ ([] : List Addr) from y) (by simp)) (by simp)
      · have z2 := un.frzs b ob _ z
        have e1 := (hok b _ z).1
        have e2 := (hok' b _ z2).1
        rw [e] at e1
        cases e1
        exact e2
    | next => exact h.elim
    | brk => exact h.elim
    | cont => exact h.elim
theorem end_call (KX : K.In s1.heap) (gl : s1.heap.Ns mainGlobals mg) (bl : s1.heap.Ns builtinsNs mb) (bb : ∀ z : Str, z ≠ "__name__" → mb z = bootBuiltins z) (nl : s1.heap.NoLimit) (gn : s1.gens = #[])
    (sc : s1.heap.get? a = some { cls := .type "list", data := .seq vs.toArray }) (hi : IntsAre vs ns) (hl : ns.length ≤ sizeLine) (rm : Room k callerA)
    (F : ∀ base : Heap, K.In base → base.Ns mainGlobals mg → FnG P w K mg base k fa fd [x] (spM K 1 m)) (bt : ∀ (s : Shared) (u : Value), BindsTo s fd ⟨[u], []⟩ [(x, u)])
    {M' : MH} (hm : m [.lst (ns.map D.int)] [] = .ok (.bl true) M') : codeAny (model P w) callerA (.call (.ref fa) ⟨[.ref a], []⟩) (EndsSo s1) s1 := by
  have rv := vals_ints hi
  cases hk : K.lookup a with
  | some o =>
    have e := KX a o hk
    rw [sc] at e
    cases e
    refine end_core KX gl bl bb nl gn sc rm F bt hm (fun _ => none) (fun _ => .inl rfl) (fun b u z => by cases (show (none : Option HO) = some u from z)) ?_
    exact den_lst.mpr ⟨a, ns.map V.int, rfl, .inr (.inr ⟨_, vs.toArray, _, hk, rfl, rfl, rfl, by rw [List.size_toArray, hi.length]; exact hl, by simpa using rv⟩), dens_ints⟩
  | none =>
    have hA : ∀ {b : Addr}, b = a → (if b = a then some (HO.frz { cls := .type "list", data := .seq vs.toArray } (.lst (ns.map V.int))) else none) = some (HO.frz { cls := .type "list", data := .seq vs.toArray } (.lst (ns.map V.int))) := fun h => if_pos h
    refine end_core KX gl bl bb nl gn sc rm F bt hm (fun b => if b = a then some (.frz { cls := .type "list", data := .seq vs.toArray } (.lst (ns.map V.int))) else none) (fun b => ?_) (fun b u z => ?_) ?_
    · by_cases hb : b = a
      · exact .inr ⟨hb, hk, _, _, hA hb⟩
      · exact .inl (if_neg hb)
    · by_cases hb : b = a
      · cases (hA hb).symm.trans z
        subst hb
        exact ⟨sc, by rw [List.length_map]; exact hl, vs, _, rv, sc⟩
      · cases (if_neg hb).symm.trans z
    · refine den_lst.mpr ⟨a, ns.map V.int, rfl, .inl ⟨.inr ⟨_, hA rfl⟩, by simp, by simp⟩, dens_ints⟩
end
/-- THE END of a proof: the law's def is m, and m tells True of every script -/
theorem walk_m {l : PySem.W.OpenLaw} {n k : Nat} {q : Program} {loose : List Str} {XP : (Str → Option Value) → Heap → Prop} {YP : World → Heap → Prop} {d : DefRec} {K : Params → PySem.W.Frag} {x : Str} {m : MF}
    (hn : l.most = some n) (hn2 : n ≤ sizeLine) (hdf : d.params.defaults = []) (rm : Room k callerA) (hY : ∀ (w : World) (h : Heap), YP w h → (K w.params).In h)
    (F : ∀ (w : World) (mg : Str → Option Value) (fa : Addr) (h : Heap), (K w.params).In h → h.Ns mainGlobals mg → mg d.name = some (.ref fa) →
      ∃ fd : FuncData, (∀ (s : Shared) (u : Value), BindsTo s fd ⟨[u], []⟩ [(x, u)]) ∧ ∀ base : Heap, (K w.params).In base → base.Ns mainGlobals mg → FnG l.prog w (K w.params) mg base k fa fd [x] (spM (K w.params) 1 m))
    (hm : ∀ ns : List Int, ns.length ≤ n → (∀ z ∈ ns, Builtin.Int.intBits z ≤ 1048576) → ∃ M', m [.lst (ns.map D.int)] [] = .ok (.bl true) M') : PySem.W.WalkO q loose XP YP l.row.toRowW d [] (fun f vs => PySem.call f vs) := by
  refine Att.attach_callB hn hdf fun w s0 s1 mg mb fa o pm cd doc a vs ns G Y ho hd hcd hmg hobj hints hlen hbits hg => ?_
  obtain ⟨fd, hb, hF⟩ := F w mg fa _ (hY w _ Y) G.T.g hmg
  obtain ⟨M', e⟩ := hm ns hlen hbits
  exact end_call (hY w _ Y) G.T.g G.T.b G.T.builtins G.T.nolimit hg hobj hints (Nat.le_trans hlen hn2) rm hF hb e
end Mi

end

section
/-! Mi, seventeenth part: how a printed derivation is put together. -/
namespace Mi
open PySem PySem.Spec PyProof.Rows L2
abbrev WE (E : XK) : WX := fun c d _ H => E c d H
theorem fm_mk {P : Program} {w : World} {K : PySem.W.Frag} {mg : Str → Option Value} {base : Heap} {k : Nat} {x : Str} {st : Stmt} {dvs : List V} {kws : List (Str × V)} {ps : List Str} {b : MS} {n : Nat} (N : List Str) (a : At K mg x st dvs kws) (S : FnScope N ps (defScope st)) (hn : N.length = n)
    (body : ∀ (f : Addr) (cdv : Value) (A : Around) (outer : List Env) (s : Shared) (H : Hp) (E : XK), Cg (cxOf (L2.CX P w) P w K mg base N x (defScope st) f cdv A outer s H E) (WE E) k →
      PassesOwn (model P w) (cxOf (L2.CX P w) P w K mg base N x (defScope st) f cdv A outer s H E).A (cxOf (L2.CX P w) P w K mg base N x (defScope st) f cdv A outer s H E).env (cxOf (L2.CX P w) P w K mg base N x (defScope st) f cdv A outer s H E).xe →
      SB (cxOf (L2.CX P w) P w K mg base N x (defScope st) f cdv A outer s H E) (WE E) (defBody st) b) : Fm P w K mg base (k + 1) x st dvs kws ps (mFn n b) := by
  obtain ⟨f, fd, hm, F⟩ := a
  refine ⟨f, fd, hm, F, fng_of F S (fun vs H Q E h => h.1) fun cdv A outer s H vs Q E rm gd h => ?_⟩
  obtain ⟨hl, ρ, M, ds, Rl, dd, ok⟩ := h
  have hb := body f cdv A outer s H E ⟨rm, gd, takes_of rfl rfl rfl rfl⟩ (passes_of rfl)
  refine ⟨_, hb, ρ, M, ds.map some ++ List.replicate (n - ds.length) none, Rl, by rw [← hn]; exact en_start dd, ?_⟩
  unfold mFn at ok
  cases e : b (ds.map some ++ List.replicate (n - ds.length) none) M with
  | nx env M1 =>
    rw [e] at ok
    exact fun ρ1 H1 σ1 S1 R1 E1 => ok ρ1 H1 .non S1 R1 (den_non.mpr rfl)
  | ret d M1 => rw [e] at ok; exact ok
  | bk env M1 => rw [e] at ok; exact ok.elim
  | ct env M1 => rw [e] at ok; exact ok.elim
  | exc c fs env M1 =>
    rw [e] at ok
    exact fun ρ1 H1 d σ1 cv cn S1 R1 x1 _ => ok ρ1 H1 d cv cn S1 R1 x1
  | err => rw [e] at ok; exact ok.elim
/-- the same, but not to be looked into by reckoning -/
noncomputable def sealed {α : Type} (a : α) : α := Classical.choose (⟨a, rfl⟩ : ∃ b : α, b = a)
theorem sealed_eq {α : Type} (a : α) : sealed a = a := Classical.choose_spec (⟨a, rfl⟩ : ∃ b : α, b = a)
theorem fm_seal {P : Program} {w : World} {K : PySem.W.Frag} {mg : Str → Option Value} {base : Heap} {k : Nat} {x : Str} {st : Stmt} {dvs : List V} {kws : List (Str × V)} {ps : List Str} {m m' : MF} (e : m = m') (F : Fm P w K mg base k x st dvs kws ps m') : Fm P w K mg base k x st dvs kws ps m := by
  rw [e]
  exact F
theorem fixS_nil {K : PySem.W.Frag} : FixS K [] [] := fun _ _ => dens_nil.mpr rfl
theorem fixS_cons {K : PySem.W.Frag} {d : D} {v : V} {ds : List D} {vs : List V} (h : Fix K d v) (r : FixS K ds vs) : FixS K (d :: ds) (v :: vs) := fun ρ H => dens_cons.mpr ⟨v, vs, rfl, h ρ H, r ρ H⟩
def bitsD : Op1 := fun x M => match x with
  | .int i => .ok (.int (Builtin.Int.intBits i)) M
  | _ => .err
theorem s_bits {X : Cx} {W : WX} {o : Expr} {mo : ME} {apos pos : Pos} (ho : SE X W o mo) (hb : attributeBase o "bit_length" X.env (eval o X.env) = eval o X.env := by rfl) (hl : (apos.endLine == pos.line) = true := by rfl) :
    SE X W (.Call (.Attribute o "bit_length" apos) [] [] pos) (m1 bitsD mo) := pe_imp (pe_bits ho hb hl) fun σ H Q h => by
  refine tm_bind (f := fun d env M1 => bitsD d M1) h fun d M1 ρ1 H1 v env R1 E1 dv q => ?_
  unfold bitsD at q
  split at q
  · exact ⟨_, den_int.mp dv, q ρ1 H1 _ (Stp.refl (K := X.K) (M := M1)) R1 (den_int.mpr rfl)⟩
  · exact q.elim
end Mi

end

section
/-! Mi, eighteenth part: loops and comprehensions as functions, by an invariant; sizes. -/
namespace Mi
open PySem PySem.Spec L2
theorem forGo_inv {g : D → En → Option En} {b : MS} (I : Nat → En → MH → Prop) : ∀ (items : List D) (n : Nat) (env : En) (M : MH), I n env M →
    (∀ (i : Nat) (d : D) (e : En) (M1 : MH), items[i]? = some d → I (n + i) e M1 → ∃ e1 e2 M2, g d e = some e1 ∧ (b e1 M1 = .nx e2 M2 ∨ b e1 M1 = .ct e2 M2) ∧ I (n + i + 1) e2 M2) → ∃ e2 M2, forGo g b items env M = .nx e2 M2 ∧ I (n + items.length) e2 M2
  | [], n, env, M, h, _ => ⟨env, M, rfl, h⟩
  | d :: ds, n, env, M, h, s => by
    obtain ⟨e1, e2, M2, h1, h2, h3⟩ := s 0 d env M rfl h
    obtain ⟨e3, M3, h4, h5⟩ := forGo_inv I ds (n + 1) e2 M2 (by simpa using h3) fun i x e M1 hx hi => by
      have := s (i + 1) x e M1 (by simpa using hx) (by rw [show n + (i + 1) = n + 1 + i by omega]; exact hi)
      rw [show n + 1 + i + 1 = n + (i + 1) + 1 by omega]
      exact this
    refine ⟨e3, M3, ?_, by rw [List.length_cons, show n + (ds.length + 1) = n + 1 + ds.length by omega]; exact h5⟩
    unfold forGo
    rw [h1]
    simp only
    rcases h2 with h2 | h2 <;> (rw [h2]; exact h4)
theorem lcGo_all {f : D → MH → R (Option D)} {h : D → D} {M : MH} : ∀ {items : List D}, (∀ x ∈ items, f x M = .ok (some (h x)) M) → lcGo f items M = .ok (items.map h) M
  | [], _ => rfl
  | x :: xs, q => by
    unfold lcGo
    rw [q x (List.mem_cons_self ..)]
    simp only [R.bind_ok]
    rw [lcGo_all fun y hy => q y (List.mem_cons_of_mem _ hy)]
    rfl
theorem lg_of {a k : Nat} (h : a < 2 ^ k) (hk : 0 < k) : a.log2 < k := by
  by_cases z : a = 0
  · subst z
    rw [show Nat.log2 0 = 0 by rfl]
    exact hk
  · exact (Nat.log2_lt z).mpr h
theorem rangeL_mem {lo : Int} {n : Nat} {d : D} (h : d ∈ rangeL lo n) : ∃ i : Nat, i < n ∧ d = .int (lo + i) := by
  unfold rangeL at h
  obtain ⟨i, h1, h2⟩ := List.mem_map.mp h
  exact ⟨i, List.mem_range.mp h1, h2.symm⟩
theorem map_int_get {bs : List Int} {i : Nat} {d : D} (h : (bs.map D.int)[i]? = some d) : ∃ b, bs[i]? = some b ∧ d = .int b := by
  rw [List.getElem?_map] at h
  obtain ⟨b, h1, h2⟩ := Option.map_eq_some_iff.mp h
  exact ⟨b, h1, h2.symm⟩
theorem flats_ints {bs : List Int} {n : Nat} : flats (bs.map D.int) n = true := by
  induction bs with
  | nil => rfl
  | cons b bs ih =>
    show (flat (.int b) n && flats (bs.map D.int) n) = true
    rw [ih]
    rfl
theorem pys_ints {bs : List Int} : pys (bs.map D.int) = bs.map PyData.int := by
  induction bs with
  | nil => rfl
  | cons b bs ih =>
    show py (.int b) :: pys (bs.map D.int) = _
    rw [ih]
    rfl
theorem atI_at {α : Type} {xs : List α} {i : Nat} {x : α} (h : xs[i]? = some x) : L2.atI xs (i : Int) = some x := L2.atI_nat h
theorem rng1_n {j : Int} {M : MH} {n : Nat} (h : j = n) (hn : n < 1000000) : rng1D [.int j] M = .ok (rangeL 0 n) M := by
  subst h
  unfold rng1D
  simp only
  rw [if_pos (show (n : Int).natAbs < lim by rw [Int.natAbs_natCast]; exact hn), Int.toNat_natCast]
theorem lim_n : lim = 1000000 := rfl
theorem congr2 {α β γ : Type} {f : α → β → γ} {a a' : α} {b b' : β} (h : a = a') (k : b = b') : f a b = f a' b' := by rw [h, k]
/-! ### what the top has written -/
section
variable {K : PySem.W.Frag} {h : Heap} {mg : Str → Option Value} {x : Str} {st : Stmt} {f : Addr} {oc : Value} {od an : Option Addr} {sl : Array (Option Value)} {kV dc pm cd ct : Value}
theorem at_mk (X : K.In h) (G : h.Ns mainGlobals mg) (a : PySem.W.nsIn K mainGlobals x = some (some (.ref f))) (l : K.lookup f = some ⟨oc, od, .func (PySem.W.fnOf x x (defArgs st) (defBody st) (defScope st) .none kV dc pm an cd ct), sl⟩) (c : PySem.W.codeIn K cd x = true) (k : PySem.W.keepIn K (.ref f) = true) : At K mg x st [] [] :=
  ⟨f, _, PySem.W.mg_of X G a, ⟨⟨oc, od, .none, kV, dc, pm, an, cd, ct, sl, rfl, l, c, .inl ⟨rfl, rfl⟩, .inl rfl⟩, k⟩⟩
theorem at_mk1 {Dk : Addr} {y z : Str} {u : Tok} (X : K.In h) (G : h.Ns mainGlobals mg) (a : PySem.W.nsIn K mainGlobals x = some (some (.ref f))) (l : K.lookup f = some ⟨oc, od, .func (PySem.W.fnOf x x (defArgs st) (defBody st) (defScope st) .none (.ref Dk) dc pm an cd ct), sl⟩) (c : PySem.W.codeIn K cd x = true) (k : PySem.W.keepIn K (.ref f) = true)
    (d : PySem.W.nsIn K Dk y = some (some (.str z u))) : At K mg x st [] [(y, .str z)] :=
  ⟨f, _, PySem.W.mg_of X G a, ⟨⟨oc, od, .none, .ref Dk, dc, pm, an, cd, ct, sl, rfl, l, c, .inl ⟨rfl, rfl⟩, .inr ⟨Dk, rfl, fun q hq => by
    rw [List.mem_singleton.mp hq]
    exact ⟨_, d, _, rfl⟩⟩⟩, k⟩⟩
/-- the law's own def: its object is one -/
theorem law_fd {P : Program} {w : World} {k : Nat} {ps : List Str} {m : MF} {fa : Addr} (X : K.In h) (G : h.Ns mainGlobals mg) (hfa : mg x = some (.ref fa)) (a : PySem.W.nsIn K mainGlobals x = some (some (.ref f))) (l : K.lookup f = some ⟨oc, od, .func (PySem.W.fnOf x x (defArgs st) (defBody st) (defScope st) .none kV dc pm an cd ct), sl⟩)
    {base : Heap} (F : Fm P w K mg base k x st [] [] ps m) : FnG P w K mg base k fa (PySem.W.fnOf x x (defArgs st) (defBody st) (defScope st) .none kV dc pm an cd ct) ps (spM K ps.length m) := by
  obtain ⟨f2, fd2, e1, e2, e3⟩ := F.ex
  have e4 := PySem.W.mg_of X G a
  rw [hfa] at e1 e4
  cases e1
  cases e4
  obtain ⟨_, _, _, _, _, _, _, _, _, _, _, l2, _⟩ := e2.ex
  rw [l] at l2
  cases l2
  exact e3
end
theorem tab1 {K : PySem.W.Frag} {w : World} {p : Addr} {es : Array DictEntry} {n : Nat} {z : Str} {u : Value} {v : L2.V} {d : D} (l : K.lookup p = some ⟨.type "dict", none, .dict es n, #[]⟩) (kl : PySem.W.KeysLit w.params es.toList) (q : PySem.W.nsIn K p z = some (some u)) (r : L2.RelV v u) (f : Fix K d v) : ∃ v, L2.KDct K w p z v ∧ Fix K d v := ⟨v, ⟨es, n, u, l, kl, q, r⟩, f⟩
end Mi

end

section
/-! Mi, nineteenth part: constants of the text, all, any, list, min, max, += of a name. -/
namespace Mi
open PySem PySem.Spec PyProof.Rows L2
/-! ### constants of the text -/
theorem fix_bl {K : PySem.W.Frag} {b : Bool} : Fix K (.bl b) (.bl b) := fun _ _ => den_bl.mpr rfl
theorem fix_non {K : PySem.W.Frag} : Fix K .non .non := fun _ _ => den_non.mpr rfl
/-- a tuple that stands in the text -/
theorem fix_tup {K : PySem.W.Frag} {p : Addr} {o : Obj} {its : Array Value} {n : Nat} {ds : List D} {vs : List V} (l : K.lookup p = some o) (hc : o.cls = .type "tuple") (hd : o.data = .seq its n) (hz : its.size ≤ sizeLine) (r : Vals vs its.toList) (f : FixS K ds vs) : Fix K (.tup ds) (.ref p) :=
  fun ρ H => den_tup.mpr ⟨p, vs, rfl, .inr ⟨o, its, n, l, hc, hd, hz, r⟩, f ρ H⟩
section
variable {X : Cx}
/-! ### all, any of truths in a list -/
def blsD : List D → Option (List Bool)
  | [] => some []
  | .bl b :: ds => (blsD ds).map (b :: ·)
  | _ :: _ => none
theorem blsD_eq : ∀ {ds : List D} {bs : List Bool}, blsD ds = some bs → ds = bs.map D.bl
  | [], bs, e => by cases e; rfl
  | .bl b :: ds, bs, e => by
    obtain ⟨ms, e1, e2⟩ := Option.map_eq_some_iff.mp (show (blsD ds).map (b :: ·) = some bs from e)
    subst e2
    rw [List.map_cons, blsD_eq e1]
  | .non :: _, _, e => by cases e
  | .int _ :: _, _, e => by cases e
  | .str _ :: _, _, e => by cases e
  | .ty _ :: _, _, e => by cases e
  | .adr _ :: _, _, e => by cases e
  | .ref _ :: _, _, e => by cases e
  | .tup _ :: _, _, e => by cases e
  | .lst _ :: _, _, e => by cases e
  | .dct _ _ :: _, _, e => by cases e
  | .fn _ :: _, _, e => by cases e
  | .exo _ _ _ _ :: _, _, e => by cases e
theorem blsD_map (bs : List Bool) : blsD (bs.map D.bl) = some bs := by
  induction bs with
  | nil => rfl
  | cons b bs ih =>
    show (blsD (bs.map D.bl)).map (b :: ·) = _
    rw [ih]
    rfl
theorem dens_bls {K : PySem.W.Frag} {ρ : Rho} {H : Hp} {bs : List Bool} {vs : List V} (h : Dens K ρ H (bs.map D.bl) vs) : vs = bs.map V.bl := by
  induction bs generalizing vs with
  | nil => exact dens_nil.mp h
  | cons b bs ih =>
    obtain ⟨v, r, rfl, h1, h2⟩ := dens_cons.mp h
    rw [den_bl.mp h1, ih h2]
    rfl
def anyD : OpN := fun xs M => match xs with
  | [.lst ds] => match blsD ds with
    | some bs => .ok (.bl (bs.any id)) M
    | none => .err
  | _ => .err
def allD : OpN := fun xs M => match xs with
  | [.lst ds] => match blsD ds with
    | some bs => .ok (.bl (bs.all id)) M
    | none => .err
  | _ => .err
theorem q_any : QuietN anyD := by
  intro x M c fs M' e
  unfold anyD at e
  (repeat' split at e) <;> cases e
theorem q_all : QuietN allD := by
  intro x M c fs M' e
  unfold allD at e
  (repeat' split at e) <;> cases e
theorem o_any (hc : X.calm = true) : OpNR X (.builtin "any") anyD := by
  intro ρ M H xs vs Q Rl dv h
  unfold anyD at h
  split at h
  · obtain ⟨v, rfl, d⟩ := dens_one dv
    obtain ⟨a, ys, rfl, hs, hd⟩ := den_lst.mp d
    split at h
    · rename_i bs e
      rw [blsD_eq e] at hd
      rw [dens_bls hd] at hs
      exact ⟨_, cr_any hc, a, bs, rfl, hs.sq, here Rl h (den_bl.mpr rfl)⟩
    · exact h.elim
  · exact h.elim
theorem o_all (hc : X.calm = true) : OpNR X (.builtin "all") allD := by
  intro ρ M H xs vs Q Rl dv h
  unfold allD at h
  split at h
  · obtain ⟨v, rfl, d⟩ := dens_one dv
    obtain ⟨a, ys, rfl, hs, hd⟩ := den_lst.mp d
    split at h
    · rename_i bs e
      rw [blsD_eq e] at hd
      rw [dens_bls hd] at hs
      exact ⟨_, cr_all hc, a, bs, rfl, hs.sq, here Rl h (den_bl.mpr rfl)⟩
    · exact h.elim
  · exact h.elim

/-! ### list(t): a list that is only read -/
def listOfD : OpN := fun xs M => match xs with
  | [.tup ds] => .ok (.lst ds) M
  | [.lst ds] => .ok (.lst ds) M
  | [.ref l] => match M[l]? with
    | some (.lst ds) => .ok (.lst ds) M
    | _ => .err
  | _ => .err
theorem q_listOf : QuietN listOfD := by
  intro x M c fs M' e
  unfold listOfD at e
  (repeat' split at e) <;> cases e
theorem o_listOf : OpNR X (.type "list") listOfD := by
  intro ρ M H xs vs Q Rl dv h
  unfold listOfD at h
  split at h
  · obtain ⟨v, rfl, d⟩ := dens_one dv
    obtain ⟨a, ys, rfl, hs, hd⟩ := den_tup.mp d
    exact ⟨_, call_list_of, a, ys, rfl, .inr hs, newL Rl h hd⟩
  · obtain ⟨v, rfl, d⟩ := dens_one dv
    obtain ⟨a, ys, rfl, hs, hd⟩ := den_lst.mp d
    exact ⟨_, call_list_of, a, ys, rfl, .inl hs.sq, newL Rl h hd⟩
  · obtain ⟨v, rfl, d⟩ := dens_one dv
    split at h
    · rename_i ds hm
      obtain ⟨a, ys, rfl, hs, hd⟩ := cell_lst Rl d hm
      exact ⟨_, call_list_of, a, ys, rfl, .inl (SqL.of hs), newL Rl h hd⟩
    · exact h.elim
  · exact h.elim

/-! ### min(i, j), max(i, j) -/
def max2D : OpN := fun xs M => match xs with
  | [.int i, .int j] => .ok (.int (max i j)) M
  | _ => .err
def min2D : OpN := fun xs M => match xs with
  | [.int i, .int j] => .ok (.int (min i j)) M
  | _ => .err
theorem q_max2 : QuietN max2D := by
  intro x M c fs M' e
  unfold max2D at e
  split at e <;> cases e
theorem q_min2 : QuietN min2D := by
  intro x M c fs M' e
  unfold min2D at e
  split at e <;> cases e
theorem o_max2 (hc : X.calm = true) : OpNR X (.builtin "max") max2D := by
  intro ρ M H xs vs Q Rl dv h
  unfold max2D at h
  split at h
  · rename_i i j
    refine ⟨_, call_max2 hc, i, j, dens_ints_inv (ns := [i, j]) dv, ?_⟩
    have e : (if j > i then j else i) = max i j := by split <;> omega
    rw [e]
    exact here Rl h (den_int.mpr rfl)
  · exact h.elim
theorem o_min2 (hc : X.calm = true) : OpNR X (.builtin "min") min2D := by
  intro ρ M H xs vs Q Rl dv h
  unfold min2D at h
  split at h
  · rename_i i j
    refine ⟨_, call_min2 hc, i, j, dens_ints_inv (ns := [i, j]) dv, ?_⟩
    have e : (if j < i then j else i) = min i j := by split <;> omega
    rw [e]
    exact here Rl h (den_int.mpr rfl)
  · exact h.elim

/-! ### name += e, of whole numbers -/
variable {W : WX}
def cAug (i : Nat) (m : ME) : MS := fun env M => match env[i]? with
  | some (some (.int k)) => andS (m env M) env fun d M1 => match d with
    | .int j => .nx (env.set i (some (.int (k + j)))) M1
    | _ => .err
  | _ => .err
theorem c_aug {i : Nat} {x : Str} {e : Expr} {pos pos' : Pos} {m : ME} (hN : X.N.Nodup) (h : SE X W e m) (hi : X.N[i]? = some x := by rfl) (hx : Loc X.env.scope x := by first | exact .inl rfl | exact .inr rfl)
    (hf : X.fn x = true ∨ X.env.scope.names.lookup x = some .local := by first | exact .inl rfl | exact .inr rfl | assumption) : SS X W (.AugAssign (.Name x pos') .Add e pos) (cAug i m) := by
  refine ps_imp (ps_aug hN hi hx h ip_add hf) fun D σ H q => ?_
  obtain ⟨ρ, M, env, Rl, E, q⟩ := q
  unfold cAug at q
  split at q
  · rename_i k ek
    obtain ⟨v, h1, h2⟩ := E.get i _ ek
    rw [den_int] at h2
    subst h2
    refine ⟨.int k, h1, ?_⟩
    refine andS_stp Rl E q fun d M1 ρ1 H1 v S R1 E1 dv q1 => ?_
    split at q1
    · rename_i j
      exact ⟨k, j, rfl, den_int.mp dv, q1 ρ1 H1 _ (Stp.refl (K := X.K) (M := M1)) R1 (E1.set i (den_int.mpr rfl))⟩
    · exact q1.elim
  · exact q.elim
end
end Mi

end

section
/-! Mi, twentieth part: methods of built-in types; a dict is laid. -/
namespace Mi
open PySem PySem.Spec PyProof.Rows L2
/-- what a method is asked of -/
def rcv (T : String) (x : D) (M : MH) : Bool := match x with
  | .str _ => T == "str"
  | .lst _ => T == "list"
  | .ref l => match M[l]? with
    | some (.lst _) => T == "list"
    | some (.dct _) => T == "dict"
    | _ => false
  | _ => false
theorem rcv_ty {K : PySem.W.Frag} {ρ : Rho} {M : MH} {H : Hp} {T : String} {x : D} {v : V} (Rl : Rel K ρ M H) (d : Den K ρ H x v) (r : rcv T x M = true) : tyV K T v H := by
  unfold rcv at r
  split at r
  · rw [den_str] at d
    subst d
    exact eq_of_beq r
  · obtain ⟨a, xs, rfl, hs, _⟩ := den_lst.mp d
    exact .inl ⟨eq_of_beq r, xs, hs.sq⟩
  · split at r
    · rename_i ds hm
      obtain ⟨a, ys, rfl, hs, hd⟩ := cell_lst Rl d hm
      exact .inl ⟨eq_of_beq r, ys, SqL.of hs⟩
    · rename_i kvs hm
      obtain ⟨p, o, rfl, hl, ho⟩ := den_ref.mp d
      obtain ⟨b, ks, h1, h2, h3⟩ := Rl.obj _ _ hm
      rw [hl] at h1
      cases h1
      have e := ho b rfl
      subst e
      exact .inr (.inr (.inl ⟨eq_of_beq r, .inl ⟨ks, h2⟩⟩))
    · cases r
  · cases r
abbrev OpM := D → List D → MH → R D
def OpMR (X : Cx) (id : String) (g : OpM) : Prop := ∀ ρ M H x xs v vs Q, Rel X.K ρ M H → Den X.K ρ H x v → Dens X.K ρ H xs vs → ROk X.K ρ H Q (g x xs M) → ∃ r, MtR X id r ∧ r v vs H Q
def QuietM (g : OpM) : Prop := ∀ x xs M c fs M', g x xs M ≠ .exc c fs M'
def mMt (T : String) (g : OpM) (mo : ME) (ma : MA) : ME := fun env M => (mo env M).bind fun x M1 => if rcv T x M1 = true then (ma env M1).bind fun xs M2 => g x xs M2 else .err
section
variable {X : Cx} {W : WX} {o e : Expr} {es : List Expr} {mo : ME} {ma : MA} {name : Str} {apos cpos : Pos} {T id : String} {g : OpM}
theorem s_mt (pa : PlainAttrs T) (slot : Slot T name id) (hty : typeOf (.builtin id) = pure (.type "method_descriptor")) (om : OpMR X id g) (q : QuietM g) (ho : SE X W o mo) (ha : SA X W (e :: es) ma)
    (hbase : attributeBase o name X.env (eval o X.env) = eval o X.env := by rfl)
    (hfew : ((backTo cpos (starEach (e :: es) X.env)).all (fun x => !x.1) && (backToKw cpos (keywordEach [] X.env)).all (fun x => x.1.isSome) && decide ((e :: es).length + ([] : List Keyword).length + (if ([] : List Keyword).isEmpty then 0 else 1) < 30)) = true := by rfl)
    (hline : (apos.endLine == cpos.line) = true := by rfl) (hs : starEach (e :: es) X.env = (false, eval e X.env) :: starEach es X.env := by rfl) (hpl : (backTo cpos (starEach es X.env)).any (·.1) = false := by rfl) :
    SE X W (.Call (.Attribute o name apos) (e :: es) [] cpos) (mMt T g mo ma) := by
  refine ⟨fun pins s σ H Q I h => ?_⟩
  refine wpAny_Call_method_late hbase hfew hline rfl (thn (ho.run pins s σ H (fun x H1 => ∃ ρ M env d, Rel X.K ρ M H1 ∧ EnR X.K ρ H1 env σ ∧ Den X.K ρ H1 d x ∧ rcv T d M = true ∧ Ok X.K ρ H1 (DnD X.K) (fun c d H' => W c d σ H') Q ((ma env M).bind fun xs M2 => g d xs M2)) I ?_) fun v s1 ⟨x, H1, I1, r1, ρ, M, env, d, R1, E1, dx, rc, q1⟩ => ?_)
  · refine tm_bind (f := fun x env M1 => if rcv T x M1 = true then (ma env M1).bind fun xs M2 => g x xs M2 else .err) h fun x M1 ρ1 H1 v env R1 E1 dx h => ?_
    split at h
    · rename_i rc
      exact ⟨ρ1, M1, env, x, R1, E1, dx, rc, h⟩
    · exact h.elim
  obtain ⟨h1, h2⟩ := tyV_is I1 r1 (rcv_ty R1 dx rc)
  refine ⟨T, id, pa, slot, hty, h1, h2, ?_⟩
  have hA := ha.run cpos pins s1 σ H1 (fun vs H2 => ∃ r, MtR X id r ∧ r x vs H2 Q) I1 ⟨ρ, M, env, R1, E1, q1.bind fun xs M2 ρ2 H2 vs _ S R2 dv h => om ρ2 M2 H2 d xs x vs Q R2 (Den.step R1 S _ _ dx) dv (ok_quiet (q d xs M2) h)⟩
  rw [hs] at hA ⊢
  refine Calls.callWith_builtin (by show (false || (backTo cpos (starEach es X.env)).any (·.1)) = false; rw [hpl]; rfl) (Calls.evalArgs_plain ?_)
  exact thn hA fun us s2 ⟨vs, H2, I2, r2, r, hm, q2⟩ => hm pins s2 σ H2 x vs v us Q I2 r1 r2 q2
/-! ### xs.append(y) -/
def appD : OpM := fun x xs M => match x with
  | .ref l => match M[l]? with
    | some (.lst ds) => match xs with
      | [y] => if ds.length < lim then .ok .non (M.set l (.lst (ds ++ [y]))) else .err
      | _ => .err
    | _ => .err
  | _ => .err
theorem q_app : QuietM appD := by
  intro x xs M c fs M' e
  unfold appD at e
  (repeat' split at e) <;> cases e
theorem o_app : OpMR X "list.append" appD := by
  intro ρ M H x xs v vs Q Rl dx dv h
  unfold appD at h
  split at h
  · rename_i l
    obtain ⟨p, u, rfl, hl, ho⟩ := den_ref.mp dx
    split at h
    · rename_i ds hm
      obtain ⟨b, ys, h1, h2, h3⟩ := Rl.obj l _ hm
      have hl2 := h1
      rw [hl] at h1
      cases h1
      have ep := ho b rfl
      subst ep
      split at h
      · rename_i y
        obtain ⟨w, rfl, dw⟩ := dens_one dv
        split at h
        · rename_i hz
          have S : Stp ρ H ρ (upd H b (.lst (ys ++ [w]))) := Stp.write hl2
          refine ⟨_, mt_append, b, ys, w, rfl, rfl, h2, by rw [← h3.length]; exact lim_lt hz, ?_⟩
          exact h ρ _ .non S (Rl.write hl2 ⟨b, ys ++ [w], hl2, upd_same, Dens.step Rl S _ _ (h3.append (dens_cons.mpr ⟨w, [], rfl, dw, dens_nil.mpr rfl⟩))⟩) (den_non.mpr rfl)
        · exact h.elim
      · exact h.elim
    · exact h.elim
  · exact h.elim
theorem s_app (ho : SE X W o mo) (ha : SA X W (e :: es) ma)
    (hbase : attributeBase o "append" X.env (eval o X.env) = eval o X.env := by rfl)
    (hfew : ((backTo cpos (starEach (e :: es) X.env)).all (fun x => !x.1) && (backToKw cpos (keywordEach [] X.env)).all (fun x => x.1.isSome) && decide ((e :: es).length + ([] : List Keyword).length + (if ([] : List Keyword).isEmpty then 0 else 1) < 30)) = true := by rfl)
    (hline : (apos.endLine == cpos.line) = true := by rfl) (hs : starEach (e :: es) X.env = (false, eval e X.env) :: starEach es X.env := by rfl) (hpl : (backTo cpos (starEach es X.env)).any (·.1) = false := by rfl) :
    SE X W (.Call (.Attribute o "append" apos) (e :: es) [] cpos) (mMt "list" appD mo ma) := s_mt PySem.F.plainAttrs_list PySem.F.slot_list_append PySem.F.type_list_append o_app q_app ho ha hbase hfew hline hs hpl
end
end Mi

end

section
/-! Mi, twenty-first part: try .. except one class. -/
namespace Mi
open PySem PySem.Spec PyProof.Rows L2
/-- ex: which classes the handler takes -/
def cTry (ex : Str → Option Bool) (b h : MS) : MS := fun env M => match b env M with
  | .exc c fs env' M' => match ex c with
    | some true => h env' M'
    | some false => .exc c fs env' M'
    | none => .err
  | r => r
section
variable {X : Cx} {W : WX}
theorem c_try {x : Str} {c : Value} {body suite : List Stmt} {b0 : Stmt} {np pos pos' : Pos} {b h : MS} {ex : Str → Option Bool} (hs : X.stack = X.env :: X.outer) (hf : X.env.frame = some X.env.locals) (hc : Names X x c) (tk : Takes X W)
    (hx : ∀ k r, ex k = some r → ∀ cv, CN X.K k cv → PySem.W.exmOne X.K cv c = some r)
    (hb : ∀ (W' : WX) (pn : List (Addr × Obj)) (xe : Value → Shared → Prop), Takes (X.tr pn xe) W' → PassesOwn (model X.prog X.w) X.A X.env xe → SB (X.tr pn xe) W' body b)
    (hsu : ∀ (a : Addr) (oe : Obj) (cls : Value) (d : Option Addr) (pn : List (Addr × Obj)), Zc cls d oe → (∃ vs, oe.data = .fields vs) → SB (X.suite a ((a, oe) :: pn)) W (b0 :: suite) h) :
    SS X W (.Try body [.ExceptHandler (some (.Name x np)) none (b0 :: suite) pos'] [] [] pos) (cTry ex b h) := by
  refine ps_imp (ps_try_only (tb := fun W' => ts X.K W' b) (ts := fun _ _ _ => ts X.K W h) hs hf hc tk (fun W' pn xe t p => hb W' pn xe t p) fun a oe cls d pn z f => hsu a oe cls d pn z f) fun D σ H q => ?_
  obtain ⟨ρ, M, env, Rl, E, q⟩ := q
  refine ⟨ρ, M, env, Rl, E, ?_⟩
  unfold cTry at q
  cases e : b env M with
  | nx env' M' => rw [e] at q; exact q
  | ret d M' => rw [e] at q; exact q
  | bk env' M' => rw [e] at q; exact q
  | ct env' M' => rw [e] at q; exact q
  | err => rw [e] at q; exact q
  | exc cls fs env' M' =>
    rw [e] at q
    simp only at q
    intro ρ' H' d σ' cv cn S R' xr E'
    split at q
    · rename_i ec
      exact ⟨true, hx _ _ ec _ cn, fun _ a _ => ⟨ρ', M', env', R', E', q.step S⟩, fun z => nomatch z⟩
    · rename_i ec
      exact ⟨false, hx _ _ ec _ cn, (fun z => nomatch z), fun _ => q ρ' H' d σ' cv cn S R' xr E'⟩
    · exact q.elim
/-! ### raise X(..) of an own class without an own __init__ -/
theorem c_raise0 {C : Addr} {bmB : List Value} {B newId initId : String} {x : Str} {p : Pos} {e : Expr} {es : List Expr} {ma : MA} {pos cpos : Pos} (hc : X.calm = true) (tk : Takes X W) (F : ExcBaseFacts B newId initId bmB) (q : PySem.W.excIn X.K C bmB newId = true) (gC : X.mg x = some (.ref C)) (cn : CN X.K x (.ref C))
    (kC : PySem.W.keepIn X.K (.ref C) = true) (r : Raises X (.ref C)) (ha : SA X W (e :: es) ma) (hg : Gl X x := by rfl) (hdb : (x == ("__debug__" : Str)) = false := by decide)
    (he : starEach (e :: es) X.env = (false, eval e X.env) :: starEach es X.env := by rfl) (hpl : (backTo cpos (starEach es X.env)).any (·.1) = false := by rfl) :
    SS X W (.Raise (some (.Call (.Name x p) (e :: es) [] cpos)) none pos) (fun env M => andS (ma env M) env fun ds M1 => if ds.length ≤ lim then .exc x none env M1 else .err) := by
  refine ps_imp (ps_raise hc tk (pmk_ownA F q gC kC r hg ha hdb he hpl)) fun D σ H w => ?_
  obtain ⟨ρ, M, env, Rl, E, w⟩ := w
  refine andS_tm Rl E w fun ds M1 ρ1 H1 vs R1 E1 dv q1 => ?_
  split at q1
  · rename_i hz
    refine ⟨by rw [← dv.length]; exact lim_le hz, ?_⟩
    exact q1 ρ1 H1 none σ _ cn (Stp.refl (K := X.K) (M := M1)) R1 rfl E1
  · exact q1.elim
end
end Mi

end

section
/-! Mi, twenty-second part: what holds within a try's body and its suite; join; {}. -/
namespace Mi
open PySem PySem.Spec PyProof.Rows L2
theorem Cg.tr {X : Cx} {W W' : WX} {k : Nat} {pn : List (Addr × Obj)} {xe : Value → Shared → Prop} (c : Cg X W k) (t : Takes (X.tr pn xe) W') : Cg (X.tr pn xe) W' k := ⟨c.rm, c.gd, t⟩
theorem takesW0 {X : Cx} : Takes X W0 := fun _ _ h => by
  obtain ⟨_, _, _, _, _, _, _, _, _, _, _, _, _, _, _, _, w⟩ := h
  exact w.elim
theorem Cg.blk {X : Cx} {W : WX} {k : Nat} {s : Shared} {H : Hp} {scope : Scope} {env : Env} {fp : List Addr} (c : Cg X W k) : Cg (X.blk s H scope env fp) W0 k := ⟨c.rm, c.gd, takesW0⟩
section
variable {X : Cx} {W : WX}
/-! ### sep.join(xs) -/
def strsD : List D → Option (List Str)
  | [] => some []
  | .str b :: ds => (strsD ds).map (b :: ·)
  | _ :: _ => none
theorem strsD_eq : ∀ {ds : List D} {bs : List Str}, strsD ds = some bs → ds = bs.map D.str
  | [], bs, e => by cases e; rfl
  | .str b :: ds, bs, e => by
    obtain ⟨ms, e1, e2⟩ := Option.map_eq_some_iff.mp (show (strsD ds).map (b :: ·) = some bs from e)
    subst e2
    rw [List.map_cons, strsD_eq e1]
  | .non :: _, _, e => by cases e
  | .int _ :: _, _, e => by cases e
  | .bl _ :: _, _, e => by cases e
  | .ty _ :: _, _, e => by cases e
  | .adr _ :: _, _, e => by cases e
  | .ref _ :: _, _, e => by cases e
  | .tup _ :: _, _, e => by cases e
  | .lst _ :: _, _, e => by cases e
  | .dct _ _ :: _, _, e => by cases e
  | .fn _ :: _, _, e => by cases e
  | .exo _ _ _ _ :: _, _, e => by cases e
theorem dens_strs {K : PySem.W.Frag} {ρ : Rho} {H : Hp} {bs : List Str} {vs : List V} (h : Dens K ρ H (bs.map D.str) vs) : vs = bs.map V.str := by
  induction bs generalizing vs with
  | nil => exact dens_nil.mp h
  | cons b bs ih =>
    obtain ⟨v, r, rfl, h1, h2⟩ := dens_cons.mp h
    rw [den_str.mp h1, ih h2]
    rfl
def joinD : OpM := fun x xs M => match x, xs with
  | .str a, [.lst ds] => match strsD ds with
    | some ys => if (ys.map (·.length)).sum + ys.length * a.length ≤ lim then .ok (.str (Txt.join a ys)) M else .err
    | none => .err
  | _, _ => .err
theorem q_joinD : QuietM joinD := by
  intro x xs M c fs M' e
  unfold joinD at e
  (repeat' split at e) <;> cases e
theorem o_joinD : OpMR X "str.join" joinD := by
  intro ρ M H x xs v vs Q Rl dx dv h
  unfold joinD at h
  split at h
  · rename_i a ds
    rw [den_str] at dx
    subst dx
    obtain ⟨w, rfl, dw⟩ := dens_one dv
    obtain ⟨p, us, rfl, hs, hd⟩ := den_lst.mp dw
    split at h
    · rename_i ys e
      rw [strsD_eq e] at hd
      rw [dens_strs hd] at hs
      split at h
      · rename_i hz
        exact ⟨_, mt_join, a, p, ys, rfl, rfl, .inl hs.sq, Nat.le_trans hz (by decide), here Rl h (den_str.mpr rfl)⟩
      · exact h.elim
    · exact h.elim
  · exact h.elim
/-! ### {} -/
def mDct0 : ME := fun _ M => .ok (.ref M.length) (M ++ [.dct []])
theorem s_dct0 {pos : Pos} : SE X W (.Dict [] [] pos) mDct0 := pe_imp pe_dnewK fun σ H Q h => by
  obtain ⟨ρ, M, env, Rl, E, h⟩ := h
  intro p hp
  refine h (ρ.add p) _ (.ref p) (Stp.cell hp) (Rl.cell hp ⟨p, [], Rl.lastAt, upd_same, .nil⟩) ?_
  exact den_ref.mpr ⟨p, some p, rfl, Rl.lastAt, fun b e => (Option.some.inj e).symm⟩
end
end Mi

end

section
/-! Mi, part 23: exceptions that were caught, as values: try .. except X as e, isinstance, their fields. -/
namespace Mi
open PySem PySem.Spec PyProof.Rows L2

theorem exv_ok {P : Program} {w : World} {H : Hp} {h : Heap} {a : Addr} {cv : Value} {d : Option Addr} {oe : Obj} {vs : Array Value} (e : h.get? a = some oe) (z : Zc cv d oe) (f : oe.data = .fields vs) : ObjOk P w H h a (ExV cv d a) :=
  ⟨⟨oe, vs, e, z, f⟩, ⟨oe, e⟩, fun _ _ ⟨o, v, q, r⟩ k => ⟨o, v, k o q, r⟩⟩
theorem exv_at {P : Program} {w : World} {H : Hp} {h : Heap} {a : Addr} {cv : Value} {d : Option Addr} (ok : HOk P w H h) (e : H a = some (ExV cv d a)) : ∃ (oe : Obj) (vs : Array Value), h.get? a = some oe ∧ Zc cv d oe ∧ oe.data = .fields vs := by
  have x : ObjOk P w H h a (.ext fun h => ∃ (oe : Obj) (vs : Array Value), h.get? a = some oe ∧ Zc cv d oe ∧ oe.data = .fields vs) := ok a _ e
  exact x.1
section
variable {X : Cx} {pins : List (Addr × Obj)} {σ : L2.St} {H : Hp} {s : Shared}
/-- a thing that stands there already is told from now on -/
theorem inv_told {a : Addr} {o : HO} (I : L2.Inv X pins σ H s) (na : H a = none) (n0 : X.s_0.heap.get? a = none) (nL : a ≠ X.env.locals) (nC : ∀ x c, X.env.cells.lookup x = some c → c ≠ a) (nP : ∀ p ∈ X.pn ++ pins, p.1 ≠ a)
    (new : ObjOk X.prog X.w (upd H a o) s.heap a o) : L2.Inv X pins σ (upd H a o) s :=
  have ne : ∀ {b : Addr} {u : HO}, H b = some u → b ≠ a := fun q => ne_of_none q na
  { ok := I.ok, os := I.os, bare := I.bare, loc := I.loc, cell := I.cell, len := I.len
    base := ⟨I.base.keep, I.base.slot, fun b u q n x => by
      have nb : b ≠ a := fun e => by rw [e, n0] at q; cases q
      rw [upd_ne nb]
      exact I.base.free b u q n x, I.base.there, fun b xs q => by
      have z := I.base.tups b xs q
      rw [upd_ne (ne z)]; exact z, fun b u v q => by
      have z := I.base.frzs b u v q
      rw [upd_ne (ne z)]; exact z, fun b ps q => by
      obtain ⟨m, z⟩ := I.base.tbls b ps q
      exact ⟨m, by rw [upd_ne (ne z)]; exact z⟩⟩
    free := by rw [upd_ne (Ne.symm nL)]; exact I.free
    freeC := fun x c e => by rw [upd_ne (nC x c e)]; exact I.freeC x c e
    pin := fun p hp => by
      obtain ⟨q1, q2, q3⟩ := I.pin p hp
      exact ⟨q1, by rw [upd_ne (nP p hp)]; exact q2, q3⟩
    hok := I.hok.laidN (fun _ _ q => q) na new }
theorem inv_out {a : Addr} {pn' : List (Addr × Obj)} (I : L2.Inv (X.suite a (X.pn ++ pins)) pn' σ H s) (ok : X.Ok) : L2.Inv X pins σ H s :=
  { ok := ok, os := I.os, bare := I.bare, base := I.base, loc := I.loc, cell := I.cell, free := I.free, freeC := I.freeC, hok := I.hok, len := I.len, pin := fun p hp => I.pin p (List.mem_append_left _ hp) }
theorem inv_in {a : Addr} (I : L2.Inv X pins σ H s) : L2.Inv (X.suite a (X.pn ++ pins)) [] σ H s :=
  { ok := I.ok.suite _ _, os := I.os, bare := I.bare, base := I.base, loc := I.loc, cell := I.cell, free := I.free, freeC := I.freeC, hok := I.hok, len := I.len, pin := fun p hp => I.pin p (by rw [List.append_nil] at hp; exact hp) }
end

/-- the ends of a suite whose name goes behind it -/
def goneEnds (i : Nat) (D : Ends) : Ends := { nx := fun τ G => D.nx (τ.set i none) G, rt := D.rt, bk := fun τ G => D.bk (τ.set i none) G, ct := fun τ G => D.ct (τ.set i none) G }
/-- what the clause wishes; the exception is told at its address -/
def wVal (K : PySem.W.Frag) (c : Value) (i : Nat) (ts : Value → Option Addr → Addr → TS) (Wout : WX) (D : Ends) : WX := fun cls d τ G =>
  ∃ b, PySem.W.exmOne K cls c = some b ∧ (b = true → ∀ a, G a = none → ts cls d a (goneEnds i D) (τ.set i (some (.ref a))) (upd G a (ExV cls d a))) ∧ (b = false → Wout cls d τ G)
/-- what is done with an exception of the body -/
def caught (X : Cx) (pins : List (Addr × Obj)) (D : Ends) (hd : List ExceptHandler) : Value → Shared → Prop := fun e s1 =>
  wpAny (model X.prog X.w) X.A (noteFrame e X.env) (fun _ s2 => wpAny (model X.prog X.w) X.A (setFlight e none) (fun _ s3 => wpAny (model X.prog X.w) X.A (handleBy e X.env hd) (SP X pins D) X.xe s3) X.xe s2) X.xe s1
section
variable {X : Cx} {x n : Str} {c : Value} {i : Nat} {body suite : List Stmt} {b0 : Stmt} {np pos pos' : Pos} {tb : WX → TS} {ts : Value → Option Addr → Addr → TS} {Wout : WX}
theorem ps_try_val (hs : X.stack = X.env :: X.outer) (hf : X.env.frame = some X.env.locals) (hx : X.ex = []) (hN : X.N.Nodup) (hi : X.N[i]? = some n) (hl : X.env.kindOf n = some .local) (hc : Names X x c) (tk : Takes X Wout)
    (hb : ∀ (W : WX) (pn : List (Addr × Obj)) (xe : Value → Shared → Prop), Takes (X.tr pn xe) W → PassesOwn (model X.prog X.w) X.A X.env xe → PSs (X.tr pn xe) body (tb W))
    (hsu : ∀ (a : Addr) (cls : Value) (d : Option Addr) (pn : List (Addr × Obj)), PSs (X.suite a pn) (b0 :: suite) (ts cls d a)) :
    PS X (.Try body [.ExceptHandler (some (.Name x np)) (some n) (b0 :: suite) pos'] [] [] pos) (fun D σ H => tb (wVal X.K c i ts Wout D) D σ H) := by
  refine ⟨fun pins s σ H D I h => ?_⟩
  have ok := I.ok
  have frm : X.A.frames = some (X.env :: X.outer) := by rw [ok.frames, hs]
  have lc : Loc X.env.scope n := .inl hl
  refine wpAny_Try_except ?_
  have take : Takes (X.tr (X.pn ++ pins) (caught X pins D [.ExceptHandler (some (.Name x np)) (some n) (b0 :: suite) pos'])) (wVal X.K c i ts Wout D) := by
    intro u s' xx
    obtain ⟨a, B, sI, pins', σ', H', cls, d, rfl, J', nb, up, sky, na, os, ag, b, hb1, hyes, hno⟩ := xx
    have J : L2.Inv X pins σ' H' sI := J'.ofTry ok
    rw [show (X.tr (X.pn ++ pins) (caught X pins D [.ExceptHandler (some (.Name x np)) (some n) (b0 :: suite) pos'])).stack = X.env :: X.outer from hs] at sky
    unfold caught
    refine Sky.land Zc.steady frm hf sky fun h3 fl3 up3 => ?_
    -- the exception's own object is none of ours
    have frameless : ∀ {g : Heap} {o : Obj} {vs : Array Value}, g.FunFrames B (X.env :: X.outer) → g.get? a = some o → o.data = .fields vs → a ∉ frs (X.env :: X.outer) := by
      intro g o vs ff e dd hm
      obtain ⟨_, o', e', hnf⟩ := ff.mem hm
      rw [e] at e'; cases e'
      exact hnf _ dd
    obtain ⟨oe3, vs3, he3, hz3, hd3⟩ := fl3.there
    have nfr := frameless fl3.2.2.1 he3 hd3
    have nL : a ≠ X.env.locals := fun z => nfr (List.mem_filterMap.mpr ⟨X.env, List.mem_cons_self, by rw [hf, z]⟩)
    have nI : sI.heap.get? a = none := by
      cases q : sI.heap.get? a with
      | none => rfl
      | some o =>
        have z := nb a o q (by rw [show (X.tr (X.pn ++ pins) (caught X pins D [.ExceptHandler (some (.Name x np)) (some n) (b0 :: suite) pos'])).stack = X.env :: X.outer from hs]; exact nfr)
        rw [fl3.2.1] at z; cases z
    have n0 : X.s_0.heap.get? a = none := by
      cases q : X.s_0.heap.get? a with
      | none => rfl
      | some o =>
        obtain ⟨o', z⟩ := J.base.there a o q (by rw [hx]; simp)
        rw [nI] at z; cases z
    have nC : ∀ y k, X.env.cells.lookup y = some k → k ≠ a := fun y k e z => by
      obtain ⟨v, o, q, _⟩ := J.cell y k e
      rw [z, nI] at q; cases q
    have nP : ∀ p ∈ X.pn ++ pins, p.1 ≠ a := fun p hp z => by
      obtain ⟨q, _⟩ := J.pin p hp
      rw [z, nI] at q; cases q
    have J3 : L2.Inv X pins σ' H' { s' with heap := h3 } := J.landed nb fl3.1 (up.trans up3) os ag
    have tell : ∀ {g : Heap}, HandSPX.FlyingZ B (X.env :: X.outer) a (Zc cls d) g → L2.Inv X pins σ' H' { s' with heap := g } → L2.Inv X pins σ' (upd H' a (ExV cls d a)) { s' with heap := g } := fun {g} fl G => by
      obtain ⟨oe, vs, e1, e2, e3⟩ := fl.there
      exact inv_told G na n0 nL nC nP (exv_ok e1 e2 e3)
    have S3 : L2.Inv (X.suite a (X.pn ++ pins)) [] σ' (upd H' a (ExV cls d a)) { s' with heap := h3 } := inv_in (tell fl3 J3)
    refine wpAny_handleBy_cons (codeAny_handlers_test ?_) (by intro q; cases q)
    have clsAt : PySem.W.Looks (model X.prog X.w) h3 (typeOf (.ref a)) cls := fun A Q E s k q => wpAny_typeOf_ref (k _ _ he3) (by rw [hz3.1]; exact q)
    have looked := PySem.W.exm_one (M := model X.prog X.w) J3.kIn clsAt hb1
    have name : ∀ {Q E : Value → Shared → Prop}, Q c { s' with heap := h3 } → wpAny (model X.prog X.w) (X.A.mark (some (.ref a))) (eval (.Name x np) X.env) Q E { s' with heap := h3 } := by
      intro Q E q
      rcases hc with ⟨hg, hdbg, hm | ⟨hm, hv, hnn⟩⟩
      · exact ld_glob (X := X.suite a (X.pn ++ pins)) S3 hg hm q hdbg
      · exact ld_blt (X := X.suite a (X.pn ++ pins)) S3 hg hm hv q hnn hdbg
    refine name (looked.here ?_)
    cases b with
    | true =>
      refine codeAny_handlers_suite_as ?_
      refine HandSPX.lands_againZ fl3 fun h4 fl4 up4 => ?_
      have S4 : L2.Inv (X.suite a (X.pn ++ pins)) [] σ' (upd H' a (ExV cls d a)) { s' with heap := h4 } := inv_in (tell fl4 (J.landed nb fl4.1 ((up.trans up3).trans up4) os ag))
      refine store_ok (X := X.suite a (X.pn ++ pins)) (v := .ref a) S4 hN hi lc rfl (fun s5 S5 => ?_) (.inr hl)
      refine wpAny_mono ((hsu a cls d (X.pn ++ pins)).run [] s5 _ _ (goneEnds i D) S5 (hyes rfl a na)) (fun f s6 hsp => ?_) fun _ _ z => False.elim z
      have over : ∀ {τ : L2.St} {G : Hp} {Q : Shared → Prop}, L2.Inv (X.suite a (X.pn ++ pins)) [] τ G s6 → (∀ s7, L2.Inv X pins (τ.set i none) G s7 → Q s7) →
          wpAny (model X.prog X.w) X.A (do bindName X.env n .none; unbindBehindTheSuite X.env n pos') (fun _ s7 => Q s7) X.xe s6 := fun S6 hq => gone_ok (inv_out S6 ok) hN hi hl hq
      cases f with
      | next =>
        rcases hsp with ⟨τ, G, S6, q6⟩
        exact over S6 fun s7 J7 => ⟨_, _, J7, q6⟩
      | brk =>
        rcases hsp with ⟨τ, G, S6, q6⟩
        exact over S6 fun s7 J7 => ⟨_, _, J7, q6⟩
      | cont =>
        rcases hsp with ⟨τ, G, S6, q6⟩
        exact over S6 fun s7 J7 => ⟨_, _, J7, q6⟩
      | ret u =>
        rcases hsp with ⟨v6, τ, G, S6, r6, q6⟩
        exact over S6 fun s7 J7 => ⟨_, _, _, J7, r6, q6⟩
    | false =>
      refine wpAny_handleBy_nil ?_
      obtain ⟨_, _, _, oe, vs, T, oT, ts', he, hz, hd, h1, hr⟩ := id fl3
      unfold PySem.passOn
      refine wpAny_bind (wpAny_field he hd h1 ?_)
      rw [if_neg (show ¬ ((Value.ref T == Value.none) = true) by simp)]
      have on : wpAny (model X.prog X.w) X.A (setFlight (.ref a) X.env.frame) (fun _ s4 => wpAny (model X.prog X.w) X.A (throw (.ref a) : Sem Flow) (SP X pins D) X.xe s4) X.xe { s' with heap := h3 } := by
        rw [hf]
        refine HandSPX.setFlight_upZ fl3 fun h4 hh4 up4 => wpAny_throw (tk _ _ ?_)
        exact ⟨a, B, sI, pins, σ', H', cls, d, rfl, J, nb, (up.trans up3).trans up4, .inr (.inr (by rw [hs]; exact hh4)), na, os, ag, hno rfl⟩
      first
        | exact wpAny_bind (wpAny_pure (wpAny_bind on))
        | exact wpAny_bind on
  refine wpAny_mono ((hb (wVal X.K c i ts Wout D) (X.pn ++ pins) (caught X pins D _) take PassesOwn.looking).run [] s σ H D (I.toTry _) h) (fun f s1 hsp => ?_) fun e s1 he => he
  cases f with
  | next =>
    rcases hsp with ⟨τ, G, J', q⟩
    exact wpAny_execs_nil ⟨τ, G, J'.ofTry ok, q⟩
  | brk =>
    rcases hsp with ⟨τ, G, J', q⟩
    exact ⟨τ, G, J'.ofTry ok, q⟩
  | cont =>
    rcases hsp with ⟨τ, G, J', q⟩
    exact ⟨τ, G, J'.ofTry ok, q⟩
  | ret u =>
    rcases hsp with ⟨v, τ, G, J', r, q⟩
    exact ⟨v, τ, G, J'.ofTry ok, r, q⟩
end

/-! ### as functions on data -/
/-- the slot's worth of a caught exception -/
def exoOf (c : Str) : Option (List (Str × D)) → D
  | none => .exo c false [] []
  | some fs => .exo c true (fs.map (·.1)) (fs.map (·.2))
def cTryAs (i : Nat) (ex : Str → Option Bool) (b h : MS) : MS := fun env M => match b env M with
  | .exc c fs env' M' => match ex c with
    | some true => match h (env'.set i (some (exoOf c fs))) M' with
      | .nx e2 M2 => .nx (e2.set i none) M2
      | .bk e2 M2 => .bk (e2.set i none) M2
      | .ct e2 M2 => .ct (e2.set i none) M2
      | .ret d M2 => .ret d M2
      | _ => .err
    | some false => .exc c fs env' M'
    | none => .err
  | r => r
theorem den_exoOf {K : PySem.W.Frag} {ρ : Rho} {M : MH} {H : Hp} {c : Str} {cv : Value} {fs : Option (List (Str × D))} {d : Option Addr} {a : Addr} (R : Rel K ρ M H) (cn : CN K c cv) (x : XRel K ρ H fs d) (na : H a = none) : Den K ρ (upd H a (ExV cv d a)) (exoOf c fs) (.ref a) := by
  have S : Stp ρ H ρ (upd H a (ExV cv d a)) := Stp.alloc na
  cases fs with
  | none =>
    unfold XRel at x
    exact den_exo.mpr ⟨a, cv, d, rfl, cn, upd_same, .inl ⟨rfl, x⟩⟩
  | some fs =>
    obtain ⟨dd, gs, e1, e2, e3⟩ := x
    refine den_exo.mpr ⟨a, cv, d, rfl, cn, upd_same, .inr ⟨rfl, dd, gs, e1, by rw [upd_ne (ne_of_none e2 na)]; exact e2, ?_, ?_⟩⟩
    · clear e1 e2 S R
      induction e3 with
      | nil => rfl
      | cons r _ ih => rw [List.map_cons, List.map_cons, r.1, ih]
    · refine Dens.step R S _ _ ?_
      clear e1 e2 S
      induction e3 with
      | nil => exact dens_nil.mpr rfl
      | cons r _ ih => exact dens_cons.mpr ⟨_, _, rfl, r.2, ih⟩
theorem EnR.unset {K : PySem.W.Frag} {ρ : Rho} {H : Hp} {env : En} {σ : L2.St} (e : EnR K ρ H env σ) (i : Nat) : EnR K ρ H (env.set i none) (σ.set i none) := by
  refine ⟨by simp [e.len], fun j d hj => ?_⟩
  by_cases q : i = j
  · subst q
    by_cases hl : i < env.length
    · rw [List.getElem?_set_self hl] at hj; cases hj
    · rw [List.getElem?_eq_none (by simpa using hl)] at hj; cases hj
  · rw [List.getElem?_set_ne q] at hj
    rw [List.getElem?_set_ne q]
    exact e.get j d hj
section
variable {X : Cx} {W : WX}
theorem c_try_as {x n : Str} {c : Value} {i : Nat} {body suite : List Stmt} {b0 : Stmt} {np pos pos' : Pos} {b h : MS} {ex : Str → Option Bool} (hs : X.stack = X.env :: X.outer) (hf : X.env.frame = some X.env.locals) (hx0 : X.ex = []) (hN : X.N.Nodup) (hi : X.N[i]? = some n) (hl : X.env.kindOf n = some .local) (hc : Names X x c) (tk : Takes X W)
    (hx : ∀ k r, ex k = some r → ∀ cv, CN X.K k cv → PySem.W.exmOne X.K cv c = some r)
    (hb : ∀ (W' : WX) (pn : List (Addr × Obj)) (xe : Value → Shared → Prop), Takes (X.tr pn xe) W' → PassesOwn (model X.prog X.w) X.A X.env xe → SB (X.tr pn xe) W' body b)
    (hsu : ∀ (a : Addr) (pn : List (Addr × Obj)), SB (X.suite a pn) W0 (b0 :: suite) h) :
    SS X W (.Try body [.ExceptHandler (some (.Name x np)) (some n) (b0 :: suite) pos'] [] [] pos) (cTryAs i ex b h) := by
  refine ps_imp (ps_try_val (tb := fun W' => Mi.ts X.K W' b) (ts := fun _ _ _ => Mi.ts X.K W0 h) hs hf hx0 hN hi hl hc tk (fun W' pn xe t p => hb W' pn xe t p) fun a cls d pn => hsu a pn) fun D σ H q => ?_
  obtain ⟨ρ, M, env, Rl, E, q⟩ := q
  refine ⟨ρ, M, env, Rl, E, ?_⟩
  unfold cTryAs at q
  cases e : b env M with
  | nx env' M' => rw [e] at q; exact q
  | ret d M' => rw [e] at q; exact q
  | bk env' M' => rw [e] at q; exact q
  | ct env' M' => rw [e] at q; exact q
  | err => rw [e] at q; exact q
  | exc k fs env' M' =>
    rw [e] at q
    simp only at q
    intro ρ' H' d σ' cv cn S R' xr E'
    split at q
    · rename_i ec
      refine ⟨true, hx _ _ ec _ cn, fun _ a na => ?_, fun z => nomatch z⟩
      have S2 : Stp ρ' H' ρ' (upd H' a (ExV cv d a)) := Stp.alloc na
      refine ⟨ρ', M', _, R'.alloc na, (E'.step R' S2).set i (den_exoOf R' cn xr na), ?_⟩
      cases e2 : h (env'.set i (some (exoOf k fs))) M' with
      | nx e3 M3 =>
        rw [e2] at q
        exact fun ρ3 H3 σ3 S3 R3 E3 => q ρ3 H3 _ ((S.trans S2).trans S3) R3 (E3.unset i)
      | bk e3 M3 =>
        rw [e2] at q
        exact fun ρ3 H3 σ3 S3 R3 E3 => q ρ3 H3 _ ((S.trans S2).trans S3) R3 (E3.unset i)
      | ct e3 M3 =>
        rw [e2] at q
        exact fun ρ3 H3 σ3 S3 R3 E3 => q ρ3 H3 _ ((S.trans S2).trans S3) R3 (E3.unset i)
      | ret d3 M3 =>
        rw [e2] at q
        exact fun ρ3 H3 v S3 R3 dv => q ρ3 H3 v ((S.trans S2).trans S3) R3 dv
      | exc _ _ _ _ => rw [e2] at q; exact q.elim
      | err => rw [e2] at q; exact q.elim
    · rename_i ec
      exact ⟨false, hx _ _ ec _ cn, (fun z => nomatch z), fun _ => q ρ' H' d σ' cv cn S R' xr E'⟩
    · exact q.elim
end
end Mi

end

section
/-! Mi, part 24: isinstance of a caught exception, its fields. -/
namespace Mi
open PySem PySem.Spec PyProof.Rows L2

/-- what the written part says of an exception class of the text -/
structure XC (K : PySem.W.Frag) (c : Str) (C : Addr) : Prop where
  nm : PySem.W.nsIn K mainGlobals c = some (some (.ref C))
  cl : (PySem.W.clsIn K C).isSome = true
  ga : PySem.W.findIn K (.ref C) "__getattribute__" = some (some (.builtin "BaseException.__getattribute__"))
  gt : PySem.W.findIn K (.ref C) "__getattr__" = some none
  su : PySem.W.subIn K (.ref C) (.type "BaseException") = some true
  ac : PySem.W.findIn K (.ref C) "__class__" = some (some (.builtin "object.__class__"))
  sp : PySem.W.specialIn K (.builtin "object.__class__") "__get__" = some (some (.builtin "getset_descriptor.__get__"))
  tk : PySem.W.takesIn K (.builtin "object.__class__") = some true
  mo : PySem.W.mroIn K C (.type "object") = some true
  hd : PySem.W.hasDictIn K C = true
/-- a class in isinstance: of the text, built in -/
abbrev Ck := Sum Str String
def CkV (K : PySem.W.Frag) : Ck → Value → Prop
  | .inl n, v => CN K n v
  | .inr n, v => v = .type n
abbrev ITab := List (Str × List (Ck × Bool))
def IOk (K : PySem.W.Frag) (T : ITab) : Prop := ∀ p ∈ T, ∃ C, XC K p.1 C ∧ ∀ q ∈ p.2, ∀ nv, CkV K q.1 nv → PySem.W.kitOne K (.ref C) nv = some q.2
def isE (T : ITab) (c : Str) (k : Ck) : Option Bool := (T.find? fun p => decide (p.1 = c)).bind fun p => (p.2.find? fun q => decide (q.1 = k)).map (·.2)
def ckOf : D → Option Ck
  | .fn n => some (.inl n)
  | .ty n => some (.inr n)
  | _ => none
def isEs (T : ITab) (c : Str) : List D → Option Bool
  | [] => some false
  | d :: ds => match (ckOf d).bind (isE T c) with
    | some true => some true
    | some false => isEs T c ds
    | none => none
/-- isinstance, of exceptions too -/
def isiE (T : ITab) : OpN := fun xs M => match xs with
  | [.exo c hd ks ds, k] => match k with
    | .tup (k0 :: cs) => match isEs T c (k0 :: cs) with
      | some b => .ok (.bl b) M
      | none => .err
    | k => match (ckOf k).bind (isE T c) with
      | some b => .ok (.bl b) M
      | none => .err
  | xs => isiD xs M
theorem q_isiE {T : ITab} : QuietN (isiE T) := by
  intro x M c fs M' e
  unfold isiE at e
  split at e
  · (repeat' split at e) <;> cases e
  · exact q_isi _ _ _ _ _ e
theorem isE_kit {K : PySem.W.Frag} {T : ITab} (ok : IOk K T) {c : Str} {C : Addr} (cn : CN K c (.ref C)) {k : Ck} {b : Bool} (e : isE T c k = some b) : XC K c C ∧ ∀ nv, CkV K k nv → PySem.W.kitOne K (.ref C) nv = some b := by
  unfold isE at e
  obtain ⟨p, e1, e2⟩ := Option.bind_eq_some_iff.mp e
  obtain ⟨q, e3, e4⟩ := Option.map_eq_some_iff.mp e2
  obtain ⟨C', x, hq⟩ := ok p (List.mem_of_find?_eq_some e1)
  have h1 : p.1 = c := by simpa using List.find?_some e1
  have h2 : q.1 = k := by simpa using List.find?_some e3
  have h3 : Value.ref C' = .ref C := CN.uniq (.inl (h1 ▸ x.nm)) cn
  cases h3
  subst h1 h2 e4
  exact ⟨x, hq q (List.mem_of_find?_eq_some e3)⟩
theorem isE_cls {K : PySem.W.Frag} {T : ITab} (ok : IOk K T) {c : Str} {cv : Value} (cn : CN K c cv) {k : Ck} {b : Bool} (e : isE T c k = some b) : ∃ C, cv = .ref C := by
  unfold isE at e
  obtain ⟨p, e1, e2⟩ := Option.bind_eq_some_iff.mp e
  obtain ⟨C', x, hq⟩ := ok p (List.mem_of_find?_eq_some e1)
  have h1 : p.1 = c := by simpa using List.find?_some e1
  exact ⟨C', (CN.uniq (.inl (h1 ▸ x.nm)) cn).symm⟩
/-- its dict, if it has one -/
def XDict (H : Hp) (d : Option Addr) : Prop := d = none ∨ ∃ dd gs, d = some dd ∧ H dd = some (.xd gs)
section
variable {X : Cx} {pins : List (Addr × Obj)} {σ : L2.St} {H : Hp} {s : Shared}
theorem exv_inst (I : L2.Inv X pins σ H s) {a C : Addr} {d : Option Addr} (e : H a = some (ExV (.ref C) d a)) (hd : XDict H d) : ∃ oe od, PySem.W.InstAt s.heap a oe C od := by
  obtain ⟨oe, vs, e1, ⟨z1, z2⟩, f⟩ := exv_at I.hok e
  rcases hd with rfl | ⟨dd, gs, rfl, hg⟩
  · refine ⟨oe, none, e1, z1, ?_, ?_⟩
    · unfold PySem.W.notCls
      rw [f] <;> rfl
    · rw [z2] <;> trivial
  · have hx : ObjOk X.prog X.w H s.heap dd (.xd gs) := I.hok dd _ hg
    obtain ⟨mA, ⟨o, es, ep, e2, e3⟩, hr⟩ := hx
    refine ⟨oe, some o, e1, z1, ?_, ?_⟩
    · unfold PySem.W.notCls
      rw [f] <;> rfl
    · rw [z2]; exact e2
/-- isinstance(e, C) -/
def rIsV (K : PySem.W.Frag) : List V → Hp → VK → Prop := fun vs H Q => ∃ (a C : Addr) (c : Str) (d : Option Addr) (t : V) (b : Bool), vs = [.ref a, t] ∧ H a = some (ExV (.ref C) d a) ∧ XDict H d ∧ XC K c C ∧ (∀ u, RelV t u → PySem.W.kitOne K (.ref C) u = some b) ∧ Q (.bl b) H
theorem call_isV : CallR X (.builtin "isinstance") (rIsV X.K) := by
  intro pins s σ H xs us Q I r h
  obtain ⟨a, C, c, d, t, b, rfl, ha, hd, x, e, q⟩ := h
  cases r with
  | cons rx rr =>
    cases rr with
    | cons rt rr =>
      cases rr
      cases rx
      obtain ⟨oe, od, J⟩ := exv_inst I ha hd
      exact PySem.W.kia_one (PySem.W.kitx_exc x.cl x.ga x.gt x.su x.ac x.sp x.tk x.mo) I.kIn J (e _ rt) (fun z => nomatch z) fun tk => ⟨.bl b, H, I.kept (t' := tk) fun _ _ z => z, rfl, q⟩
/-- isinstance(e, (C, ..)) -/
def rIsVs (K : PySem.W.Frag) : List V → Hp → VK → Prop := fun vs H Q => ∃ (a C p : Addr) (c : Str) (d : Option Addr) (ts : List V) (b : Bool), vs = [.ref a, .ref p] ∧ H a = some (ExV (.ref C) d a) ∧ XDict H d ∧ XC K c C ∧ SqT K H p ts ∧ (∀ us, Vals ts us → PySem.W.kitAny K (.ref C) us = some b) ∧ Q (.bl b) H
theorem call_isVs : CallR X (.builtin "isinstance") (rIsVs X.K) := by
  intro pins s σ H xs us Q I r h
  obtain ⟨a, C, p, c, d, ts, b, rfl, ha, hd, x, hs, e, q⟩ := h
  cases r with
  | cons rx rr =>
    cases rr with
    | cons rt rr =>
      cases rr
      cases rx
      cases rt
      obtain ⟨oe, od, J⟩ := exv_inst I ha hd
      obtain ⟨its, rv, ⟨o, e1, e2, n, e3⟩, hz⟩ := I.tuple hs
      obtain ⟨oc, odd, odt, osl⟩ := o
      dsimp only at e2 e3
      subst e2 e3
      exact PySem.W.kia_tup (PySem.W.kitx_exc x.cl x.ga x.gt x.su x.ac x.sp x.tk x.mo) I.kIn J e1 (e _ rv) (fun z => nomatch z) fun tk => ⟨.bl b, H, I.kept (t' := tk) fun _ _ z => z, rfl, q⟩
end
theorem ck_val {K : PySem.W.Frag} {ρ : Rho} {H : Hp} {k : D} {ck : Ck} {t : V} {u : Value} (e : ckOf k = some ck) (h : Den K ρ H k t) (r : RelV t u) : CkV K ck u := by
  unfold ckOf at e
  split at e
  · cases e
    obtain ⟨a, h1, rfl⟩ := den_fn.mp h
    cases r
    exact .inl h1
  · cases e
    rw [den_ty] at h
    subst h
    exact r
  · cases e
theorem isEs_kit {K : PySem.W.Frag} {T : ITab} (ok : IOk K T) {c : Str} {C : Addr} (cn : CN K c (.ref C)) {ρ : Rho} {H : Hp} : ∀ {ds : List D} {xs : List V} {us : List Value} {b : Bool}, isEs T c ds = some b → Dens K ρ H ds xs → Vals xs us → PySem.W.kitAny K (.ref C) us = some b
  | [], xs, us, b, e, h, r => by
    rw [dens_nil] at h
    subst h
    cases r
    exact e
  | d :: ds, xs, us, b, e, h, r => by
    obtain ⟨v, w, rfl, h1, h2⟩ := dens_cons.mp h
    cases r with
    | cons r1 r2 =>
      unfold isEs at e
      unfold PySem.W.kitAny
      cases q : ckOf d with
      | none => rw [q] at e; cases e
      | some k =>
        rw [q] at e
        simp only [Option.bind_some] at e
        cases q2 : isE T c k with
        | none => rw [q2] at e; cases e
        | some b1 =>
          rw [q2] at e
          rw [(isE_kit ok cn q2).2 _ (ck_val q h1 r1)]
          cases b1 with
          | true => exact e
          | false => exact isEs_kit ok cn e h2 r2
theorem isEs_cls {K : PySem.W.Frag} {T : ITab} (ok : IOk K T) {c : Str} {cv : Value} (cn : CN K c cv) {d : D} {ds : List D} {b : Bool} (e : isEs T c (d :: ds) = some b) : ∃ C, cv = .ref C ∧ XC K c C := by
  unfold isEs at e
  cases q : ckOf d with
  | none => rw [q] at e; cases e
  | some k =>
    rw [q] at e
    simp only [Option.bind_some] at e
    cases q2 : isE T c k with
    | none => rw [q2] at e; cases e
    | some b1 =>
      obtain ⟨C, rfl⟩ := isE_cls ok cn q2
      exact ⟨C, rfl, (isE_kit ok cn q2).1⟩
theorem exo_dict {K : PySem.W.Frag} {ρ : Rho} {H : Hp} {hd : Bool} {d : Option Addr} {ks : List Str} {ds : List D} (h : hd = false ∧ d = none ∨ hd = true ∧ ∃ dd gs, d = some dd ∧ H dd = some (.xd gs) ∧ gs.map (·.1) = ks ∧ Dens K ρ H ds (gs.map (·.2))) : XDict H d := by
  rcases h with ⟨_, h⟩ | ⟨_, dd, gs, h1, h2, _⟩
  · exact .inl h
  · exact .inr ⟨dd, gs, h1, h2⟩
section
variable {X : Cx} {W : WX}
theorem o_isiE {T : ITab} (ok : IOk X.K T) : OpNR X (.builtin "isinstance") (isiE T) := by
  intro ρ M H xs vs Q Rl dv h
  unfold isiE at h
  split at h
  · rename_i c hd ks ds k
    obtain ⟨v, t, rfl, d1, d2⟩ := dens_two dv
    obtain ⟨a, cv, d, rfl, cn, ha, hdd⟩ := den_exo.mp d1
    split at h
    · rename_i k0 cs
      obtain ⟨p, ts, rfl, hs, hds⟩ := den_tup.mp d2
      split at h
      · rename_i b e
        obtain ⟨C, rfl, x⟩ := isEs_cls ok cn e
        exact ⟨_, call_isVs, a, C, p, c, d, ts, b, rfl, ha, exo_dict hdd, x, hs, fun us r => isEs_kit ok cn e hds r, here Rl h (den_bl.mpr rfl)⟩
      · exact h.elim
    · split at h
      · rename_i b e
        obtain ⟨ck, e1, e2⟩ := Option.bind_eq_some_iff.mp e
        obtain ⟨C, rfl⟩ := isE_cls ok cn e2
        exact ⟨_, call_isV, a, C, c, d, t, b, rfl, ha, exo_dict hdd, (isE_kit ok cn e2).1, fun u r => (isE_kit ok cn e2).2 u (ck_val e1 d2 r), here Rl h (den_bl.mpr rfl)⟩
      · exact h.elim
  · exact o_isi ρ M H _ vs Q Rl dv h
/-- a class of the text, or a def, by its name -/
theorem s_fn {x : Str} {a : Addr} {pos : Pos} (n : PySem.W.nsIn X.K mainGlobals x = some (some (.ref a))) (hm : X.mg x = some (.ref a)) (hg : Gl X x := by rfl) (hd : (x == ("__debug__" : Str)) = false := by decide) : SE X W (.Name x pos) (mC (.fn x)) :=
  s_glob (v := .ref a) hm rfl (fun _ _ => den_fn.mpr ⟨a, n, rfl⟩) hg hd

/-! ### e.f -/
abbrev ATab := List (Str × List Str)
def AOk (K : PySem.W.Frag) (T : ATab) : Prop := ∀ p ∈ T, ∃ C, XC K p.1 C ∧ ∀ f ∈ p.2, PySem.W.findIn K (.ref C) f = some none
def hasA (T : ATab) (c f : Str) : Bool := T.any fun p => decide (p.1 = c) && p.2.any fun g => decide (g = f)
def attrX (T : ATab) (f : Str) : Op1 := fun d M => match d with
  | .exo c true ks ds => if hasA T c f = true then match (ks.zip ds).lookup f with
      | some d => .ok d M
      | none => .err
    else .err
  | _ => .err
theorem hasA_ok {K : PySem.W.Frag} {T : ATab} (ok : AOk K T) {c f : Str} {cv : Value} (cn : CN K c cv) (h : hasA T c f = true) : ∃ C, cv = .ref C ∧ XC K c C ∧ PySem.W.findIn K (.ref C) f = some none := by
  unfold hasA at h
  obtain ⟨p, h1, h2⟩ := List.any_eq_true.mp h
  rw [Bool.and_eq_true, decide_eq_true_eq] at h2
  obtain ⟨e, h3⟩ := h2
  obtain ⟨g, h4, h5⟩ := List.any_eq_true.mp h3
  rw [decide_eq_true_eq] at h5
  subst h5
  obtain ⟨C, x, q⟩ := ok p h1
  subst e
  exact ⟨C, (CN.uniq (.inl x.nm) cn).symm, x, q g h4⟩
theorem look_rel {K : PySem.W.Frag} {ρ : Rho} {H : Hp} {f : Str} {d : D} : ∀ {ds : List D} {gs : List (Str × V)}, Dens K ρ H ds (gs.map (·.2)) → ((gs.map (·.1)).zip ds).lookup f = some d → ∃ v, gs.lookup f = some v ∧ Den K ρ H d v
  | [], gs, h, e => by
    cases gs <;> cases e
  | d0 :: ds, gs, h, e => by
    obtain ⟨v, r, e1, h1, h2⟩ := dens_cons.mp h
    cases gs with
    | nil => cases e1
    | cons p gs =>
      simp only [List.map_cons, List.cons.injEq] at e1
      obtain ⟨e1, e2⟩ := e1
      subst e1 e2
      obtain ⟨k, w⟩ := p
      simp only [List.map_cons, List.zip_cons_cons, List.lookup_cons] at e ⊢
      by_cases z : (f == k) = true
      · rw [z] at e ⊢
        cases e
        exact ⟨_, rfl, h1⟩
      · rw [Bool.not_eq_true] at z
        rw [z] at e ⊢
        exact look_rel h2 e
theorem pe_xval {e : Expr} {te : TE} {pos : Pos} {n : Str} (he : PE X e te) (hb : attributeBase e n X.env (eval e X.env) = eval e X.env := by rfl) :
    PE X (.Attribute e n pos) (fun σ H Q => te σ H fun x H1 => ∃ (a C dd : Addr) (c : Str) (fs : List (Str × V)) (v : V), x = .ref a ∧ H1 a = some (ExV (.ref C) (some dd) a) ∧ XC X.K c C ∧ PySem.W.findIn X.K (.ref C) n = some none ∧ H1 dd = some (.xd fs) ∧ fs.lookup n = some v ∧ Q v H1) := by
  refine ⟨fun pins s σ H Q I h => ?_⟩
  refine attr_of hb (thn (he.run pins s σ H _ I h) fun u s1 hh => ?_)
  obtain ⟨x, H1, I1, rx, a, C, dd, c, fs, v, rfl, ha, x, hno, ea, l, q⟩ := hh
  obtain rfl : u = Value.ref a := rx
  obtain ⟨oe, vs, e1, ⟨z1, z2⟩, f⟩ := exv_at I1.hok ha
  have hx : ObjOk X.prog X.w H1 s1.heap dd (.xd fs) := I1.hok dd _ ea
  obtain ⟨mA, hns, hr⟩ := hx
  obtain ⟨od, ho, hl⟩ := lookIn_ns hns
  obtain ⟨u, hu, ru⟩ := RelO.some_of (v := v) (o := mA n) (by rw [← l]; exact hr n)
  have J : PySem.W.InstAt s1.heap a oe C (some od) := ⟨e1, z1, by unfold PySem.W.notCls; rw [f] <;> rfl, by rw [z2]; exact ho⟩
  exact HandSPX.exc_get I1.kIn J x.ga x.gt x.su (PySem.W.findObj_own x.hd hno rfl (by rw [hl, hu])) (handed_of ru) ⟨v, H1, I1.tok _, ru, q⟩
theorem s_xattr {T : ATab} (ok : AOk X.K T) {e : Expr} {pos : Pos} {n : Str} {m : ME} (he : SE X W e m) (hb : attributeBase e n X.env (eval e X.env) = eval e X.env := by rfl) : SE X W (.Attribute e n pos) (m1 (attrX T n) m) := by
  refine pe_imp (pe_xval he hb) fun σ H Q h => ?_
  refine tm_bind (f := fun d env M1 => attrX T n d M1) h fun d M1 ρ1 H1 v env R1 E1 dv h => ?_
  unfold attrX at h
  split at h
  · rename_i c ks ds
    split at h
    · rename_i hA
      split at h
      · rename_i d e
        obtain ⟨a, cv, dd0, rfl, cn, ha, hdd⟩ := den_exo.mp dv
        obtain ⟨C, rfl, x, hno⟩ := hasA_ok ok cn hA
        rcases hdd with ⟨z, _⟩ | ⟨_, dd, gs, rfl, hg, rfl, hds⟩
        · cases z
        · obtain ⟨v, l, dv2⟩ := look_rel hds e
          exact ⟨a, C, dd, c, gs, v, rfl, ha, x, hno, hg, l, here R1 h dv2⟩
      · exact h.elim
    · exact h.elim
  · exact h.elim
end
end Mi

end

section
/-! Mi, part 25: raising a class of the text by its name; which classes a clause takes. -/
namespace Mi
open PySem PySem.Spec PyProof.Rows L2
/-- an exception class of the text without an own __init__ -/
structure RC0 (K : PySem.W.Frag) (mg : Str → Option Value) (x : Str) : Prop where
  ex : ∃ (C : Addr) (B newId initId : String) (bmB : List Value), ExcBaseFacts B newId initId bmB ∧ mg x = some (.ref C) ∧ PySem.W.nsIn K mainGlobals x = some (some (.ref C)) ∧ PySem.W.excIn K C bmB newId = true ∧ PySem.W.keepIn K (.ref C) = true ∧
    PySem.W.subIn K (.ref C) (.type "BaseException") = some true ∧ PySem.W.typeIn K (.ref C) = some (.type "type")
theorem rc0 {K : PySem.W.Frag} {mg : Str → Option Value} {x : Str} {C : Addr} {B newId initId : String} {bmB : List Value} {h : Heap} (X : K.In h) (G : h.Ns mainGlobals mg) (F : ExcBaseFacts B newId initId bmB) (n : PySem.W.nsIn K mainGlobals x = some (some (.ref C))) (q : PySem.W.excIn K C bmB newId = true)
    (k : PySem.W.keepIn K (.ref C) = true) (b : PySem.W.subIn K (.ref C) (.type "BaseException") = some true) (t : PySem.W.typeIn K (.ref C) = some (.type "type")) : RC0 K mg x := ⟨C, B, newId, initId, bmB, F, PySem.W.mg_of X G n, n, q, k, b, t⟩
def mRaise0 (x : Str) (ma : MA) : MS := fun env M => andS (ma env M) env fun ds M1 => if ds.length ≤ lim then .exc x none env M1 else .err
/-- which classes are taken, of those named -/
def exT (T : List (Str × Bool)) (k : Str) : Option Bool := (T.find? fun p => decide (p.1 = k)).map (·.2)
def ExOk (K : PySem.W.Frag) (c : Value) (T : List (Str × Bool)) : Prop := ∀ p ∈ T, ∀ cv, CN K p.1 cv → PySem.W.exmOne K cv c = some p.2
theorem exT_ok {K : PySem.W.Frag} {c : Value} {T : List (Str × Bool)} (ok : ExOk K c T) : ∀ k r, exT T k = some r → ∀ cv, CN K k cv → PySem.W.exmOne K cv c = some r := fun k r e cv cn => by
  unfold exT at e
  obtain ⟨p, e1, e2⟩ := Option.map_eq_some_iff.mp e
  have h : p.1 = k := by simpa using List.find?_some e1
  subst h e2
  exact ok p (List.mem_of_find?_eq_some e1) cv cn
theorem cn_ref {K : PySem.W.Frag} {c : Str} {C : Addr} (n : PySem.W.nsIn K mainGlobals c = some (some (.ref C))) {cv : Value} (cn : CN K c cv) : cv = .ref C := CN.uniq cn (.inl n)
/-- what a clause says of a class -/
theorem exm_mk {K : PySem.W.Frag} {cls : Value} {C : Addr} {b : Bool} (h1 : PySem.W.subIn K (.ref C) (.type "BaseException") = some true) (h2 : PySem.W.isClsIn K C = true) (h3 : PySem.W.typeIn K (.ref C) = some (.type "type")) (h4 : PySem.W.subIn K cls (.ref C) = some b) : PySem.W.exmOne K cls (.ref C) = some b := by
  have z : (PySem.W.clsIn K C).isSome = true := h2
  have f1 : (PySem.W.subIn K (.ref C) (.type "BaseException") == some true) = true := by rw [h1]; rfl
  have f2 : ((PySem.W.clsIn K C).isSome && PySem.W.typeIn K (.ref C) == some (.type "type")) = true := by rw [z, h3]; rfl
  show (if (PySem.W.subIn K (.ref C) (.type "BaseException") == some true) = true then (if ((PySem.W.clsIn K C).isSome && PySem.W.typeIn K (.ref C) == some (.type "type")) = true then PySem.W.subIn K cls (.ref C) else none) else none) = some b
  rw [if_pos f1, if_pos f2]
  exact h4
section
variable {X : Cx} {W : WX} {x : Str} {p pos cpos : Pos} {e : Expr} {es : List Expr} {ma : MA}
theorem c_raiseN (tk : Takes X W) (r : RC0 X.K X.mg x) (ha : SA X W (e :: es) ma) (hc : X.calm = true := by rfl) (hg : Gl X x := by rfl) (hdb : (x == ("__debug__" : Str)) = false := by decide)
    (he : starEach (e :: es) X.env = (false, eval e X.env) :: starEach es X.env := by rfl) (hpl : (backTo cpos (starEach es X.env)).any (·.1) = false := by rfl) :
    SS X W (.Raise (some (.Call (.Name x p) (e :: es) [] cpos)) none pos) (mRaise0 x ma) := by
  obtain ⟨C, B, newId, initId, bmB, F, gC, n, q, k, b, t⟩ := r.ex
  exact c_raise0 hc tk F q gC (.inl n) k (raises_own b t) ha hg hdb he hpl
end
end Mi

end

section
/-! Mi, part 26: classes of the text with fields: their making, raised. -/
namespace Mi
open PySem PySem.Spec PyProof.Rows L2
/-- what an own __init__ that stores its arguments promises -/
def spIni (C : Addr) (fs : List Str) : Sp := fun vs H Q _ => ∃ (a : Addr) (us : List V), vs = .ref a :: us ∧ us.length = fs.length ∧ H a = some (L2.exo a C none) ∧ ∀ d, H d = none → d ≠ a → Q .non (upd (upd H d (exd d (fs.zip us).reverse)) a (L2.exo a C (some d)))
theorem spIni_len {C : Addr} {fs : List Str} {vs : List V} {H : Hp} {Q : VK} {E : XK} (h : spIni C fs vs H Q E) : vs.length = fs.length + 1 := by
  obtain ⟨a, us, rfl, hl, _⟩ := h
  simp [hl]
section
variable {P : Program} {w : World} {K : PySem.W.Frag} {mg : Str → Option Value} {base : Heap} {x qual : Str} {st : Stmt} {f C : Addr} {fd : FuncData} {f1 f2 : Str}
theorem init1 (F : Fun K x qual st f fd) (S : FnScope ["self", f1] ["self", f1] (defScope st)) (T : OexC K C) (h1 : PySem.W.findIn K (.ref C) f1 = some none)
    (body : ∀ (cdv : Value) (A : Around) (outer : List Env) (s : Shared) (H : Hp) (E : XK), PSs (cxOf CX0 P w K mg base ["self", f1] qual (defScope st) f cdv A outer s H E).nox (defBody st) (tOst K f1 (tVar 0) (tVar 1))) : FnOk P w K mg base CX0 1 f fd ["self", f1] (spIni C [f1]) := by
  refine F.ok S (fun vs H Q E h => spIni_len h) fun cdv A outer s H vs Q E hr h => ⟨_, body cdv A outer s H E, ?_⟩
  obtain ⟨a, us, rfl, hl, ha, k⟩ := h
  match us, hl with
  | [y], _ => exact ⟨y, rfl, .ref a, rfl, a, C, rfl, T, h1, .inl ⟨ha, fun d hd ne => k d hd ne⟩⟩
theorem init2 (F : Fun K x qual st f fd) (S : FnScope ["self", f1, f2] ["self", f1, f2] (defScope st)) (T : OexC K C) (h1 : PySem.W.findIn K (.ref C) f1 = some none) (h2 : PySem.W.findIn K (.ref C) f2 = some none)
    (body : ∀ (cdv : Value) (A : Around) (outer : List Env) (s : Shared) (H : Hp) (E : XK), ∃ t, PSs (cxOf CX0 P w K mg base ["self", f1, f2] qual (defScope st) f cdv A outer s H E).nox (defBody st) t ∧ ∀ D σ H, tOst K f1 (tVar 0) (tVar 1) { D with nx := fun σ' H' => tOst K f2 (tVar 0) (tVar 2) D σ' H' } σ H → t D σ H) : FnOk P w K mg base CX0 1 f fd ["self", f1, f2] (spIni C [f1, f2]) := by
  refine F.ok S (fun vs H Q E h => spIni_len h) fun cdv A outer s H vs Q E hr h => ?_
  obtain ⟨t, b, i⟩ := body cdv A outer s H E
  refine ⟨t, b, i _ _ _ ?_⟩
  obtain ⟨a, us, rfl, hl, ha, k⟩ := h
  match us, hl with
  | [y, z], _ =>
    refine ⟨y, rfl, .ref a, rfl, a, C, rfl, T, h1, .inl ⟨ha, fun d hd ne => ?_⟩⟩
    refine ⟨z, rfl, .ref a, rfl, a, C, rfl, T, h2, .inr ⟨d, [(f1, y)], upd_same, by rw [upd_ne ne]; exact upd_same, by show 1 ≤ 900; decide, ?_⟩⟩
    have e : upd (upd (upd H d (exd d [(f1, y)])) a (L2.exo a C (some d))) d (exd d [(f2, z), (f1, y)]) = upd (upd H d (exd d [(f2, z), (f1, y)])) a (L2.exo a C (some d)) := by
      funext b
      by_cases hb : b = d
      · subst hb
        rw [upd_same, upd_ne ne, upd_same]
      · rw [upd_ne hb]
        by_cases ha : b = a
        · subst ha
          rw [upd_same, upd_same]
        · rw [upd_ne ha, upd_ne ha, upd_ne hb, upd_ne hb]
    show Q .non _
    rw [e]
    exact k d hd ne
end
/-- an exception class of the text whose __init__ stores its arguments -/
structure RCF (P : Program) (w : World) (K : PySem.W.Frag) (mg : Str → Option Value) (base : Heap) (x : Str) (fs : List Str) : Prop where
  ex : ∃ (C fI : Addr) (fd : FuncData), mg x = some (.ref C) ∧ PySem.W.nsIn K mainGlobals x = some (some (.ref C)) ∧ OexC K C ∧ PySem.W.findIn K (.ref C) "__init__" = some (some (.ref fI)) ∧ PySem.W.typeIn K (.ref fI) = some (.type "function") ∧
    FnOk P w K mg base CX0 1 fI fd ("self" :: fs) (spIni C fs) ∧ Binds K fd ("self" :: fs) []
def mRaiseF (x : Str) (fs : List Str) (ma : MA) : MS := fun env M => andS (ma env M) env fun ds M1 => if ds.length = fs.length ∧ ds.length ≤ 1000 then .exc x (some (fs.zip ds).reverse) env M1 else .err
theorem denP_zip2 {κ : Type} {K : PySem.W.Frag} {ρ : Rho} {H : Hp} : ∀ {fs : List κ} {ds : List D} {vs : List V}, Dens K ρ H ds vs → DenP K ρ H (fs.zip ds) (fs.zip vs)
  | [], ds, vs, _ => by simp only [List.zip_nil_left]; exact .nil
  | f :: fs, [], vs, h => by
    rw [dens_nil] at h
    subst h
    exact .nil
  | f :: fs, d :: ds, vs, h => by
    obtain ⟨v, r, rfl, h1, h2⟩ := dens_cons.mp h
    exact .cons ⟨rfl, h1⟩ (denP_zip2 h2)
theorem denP_rev {κ : Type} {K : PySem.W.Frag} {ρ : Rho} {H : Hp} {ps : List (κ × D)} {qs : List (κ × V)} (h : DenP K ρ H ps qs) : DenP K ρ H ps.reverse qs.reverse := by
  induction h with
  | nil => exact .nil
  | cons r _ ih =>
    rw [List.reverse_cons, List.reverse_cons]
    exact Paired.snoc ih r
section
variable {X : Cx} {W : WX} {x : Str} {p pos cpos : Pos} {e : Expr} {es : List Expr} {ma : MA} {fs : List Str}
theorem c_raiseF {k : Nat} (rm : Room k X.A) (hk : 2 ≤ k) (tk : Takes X W) (r : RCF X.prog X.w X.K X.mg X.base x fs) (ha : SA X W (e :: es) ma) (hc : X.calm = true := by rfl) (hg : Gl X x := by rfl) (hdb : (x == ("__debug__" : Str)) = false := by decide)
    (he : starEach (e :: es) X.env = (false, eval e X.env) :: starEach es X.env := by rfl) (hpl : (backTo cpos (starEach es X.env)).any (·.1) = false := by rfl) :
    SS X W (.Raise (some (.Call (.Name x p) (e :: es) [] cpos)) none pos) (mRaiseF x fs ma) := by
  obtain ⟨C, fI, fd, hm, n, T, iC, tI, F1, hb⟩ := r.ex
  refine ps_imp (ps_raise hc tk (pmk_oex (ds := []) (dvs := []) T iC tI F1 (rm.mono hk) hb .nil pass0 hg hm ha hdb he hpl)) fun D σ H w => ?_
  obtain ⟨ρ, M, env, Rl, E, w⟩ := w
  refine andS_tm Rl E w fun ds M1 ρ1 H1 vs R1 E1 dv q1 => ?_
  split at q1
  · rename_i hz
    refine ⟨by rw [← dv.length]; exact hz.2, fun a na => ⟨a, vs, by rw [List.append_nil], by rw [← dv.length]; exact hz.1, upd_same, fun d hd ne => ⟨rfl, d, (fs.zip vs).reverse, upd_same, by rw [upd_ne ne]; exact upd_same, by rw [upd_ne ne] at hd; exact hd, ?_⟩⟩⟩
    have nd : H1 d = none := by rw [upd_ne ne] at hd; exact hd
    have eh : upd (L2.del (upd (upd (upd H1 a (L2.exo a C none)) d (exd d (fs.zip vs).reverse)) a (L2.exo a C (some d))) a) d (.xd (fs.zip vs).reverse) = upd H1 d (.xd (fs.zip vs).reverse) := by
      funext b
      by_cases hb : b = d
      · subst hb
        rw [upd_same, upd_same]
      · rw [upd_ne hb, upd_ne hb]
        by_cases ha : b = a
        · subst ha
          rw [del_same, na]
        · rw [del_ne ha, upd_ne ha, upd_ne hb, upd_ne ha]
    show W (.ref C) (some d) σ (upd _ d _)
    rw [eh]
    have S : Stp ρ1 H1 ρ1 (upd H1 d (.xd (fs.zip vs).reverse)) := Stp.alloc nd
    exact q1 ρ1 _ (some d) σ (.ref C) (.inl n) S (R1.alloc nd) ⟨d, _, rfl, upd_same, DenP.step R1 S (denP_rev (denP_zip2 dv))⟩ (E1.step R1 S)
  · exact q1.elim
end
end Mi

end

section
/-! Mi, part 27: tables of the text asked for a key; defs held in names; no def; lists told away; pop; min. -/
namespace Mi
open PySem PySem.Spec PyProof.Rows L2
/-! ### x in TABLE -/
def KeysOf : List DictEntry → List Str → Prop
  | [], [] => True
  | e :: r, k :: ks => (∃ t, e.key = .str k t) ∧ KeysOf r ks
  | _, _ => False
/-- a table of the text, its keys known whole -/
def KTabA (K : PySem.W.Frag) (w : World) (x : Str) (ks : List Str) : Prop := ∃ p es n, PySem.W.nsIn K mainGlobals x = some (some (.ref p)) ∧ KDict K w p es n ∧ KeysOf es.toList ks
theorem keys_find {z : Str} : ∀ {es : List DictEntry} {ks : List Str}, KeysOf es ks → (es.find? (·.key.isStr z)).isSome = ks.any (fun k => decide (k = z)) ∧ es.any (·.refKey) = false
  | [], [], _ => ⟨rfl, rfl⟩
  | [], _ :: _, h => h.elim
  | _ :: _, [], h => h.elim
  | e :: es, k :: ks, h => by
    obtain ⟨⟨t, ht⟩, h2⟩ := h
    obtain ⟨i1, i2⟩ := keys_find (z := z) h2
    have hr : e.refKey = false := by unfold DictEntry.refKey; rw [ht] <;> rfl
    refine ⟨?_, by rw [List.any_cons, hr, i2]; rfl⟩
    rw [List.find?_cons, List.any_cons]
    have e1 : e.key.isStr z = decide (k = z) := by
      rw [ht]
      by_cases q : k = z
      · subst q; simp [Value.isStr]
      · rw [decide_eq_false q]
        show (k == z) = false
        simpa using q
    rw [e1]
    cases decide (k = z) with
    | true => rfl
    | false => exact i1
theorem keys_ns {K : PySem.W.Frag} {p : Addr} {c : Value} {d : Option Addr} {es : Array DictEntry} {n : Nat} {sl : Array (Option Value)} {ks : List Str} {z : Str} (l : K.lookup p = some ⟨c, d, .dict es n, sl⟩) (h : KeysOf es.toList ks) : ∃ r, PySem.W.nsIn K p z = some r ∧ r.isSome = ks.any (fun k => decide (k = z)) := by
  obtain ⟨h1, h2⟩ := keys_find (z := z) h
  unfold PySem.W.nsIn
  rw [l]
  simp only
  cases e : es.toList.find? (·.key.isStr z) with
  | none =>
    rw [e] at h1
    exact ⟨none, by simp only [h2]; rfl, h1⟩
  | some en =>
    rw [e] at h1
    exact ⟨some en.val, rfl, h1⟩
def inTD (x : Str) (ks : List Str) (neg : Bool) : Op2 := fun a b M => match a, b with
  | .str z, .fn y => if y = x then .ok (.bl (ks.any (fun k => decide (k = z)) != neg)) M else .err
  | _, _ => .err
theorem q_inT {x : Str} {ks : List Str} {neg : Bool} : Quiet2 (inTD x ks neg) := by
  intro a b M c fs M' e
  unfold inTD at e
  (repeat' split at e) <;> cases e
section
variable {X : Cx} {W : WX}
theorem o_inT {x : Str} {ks : List Str} (ok : KTabA X.K X.w x ks) : Op2R X (compareOp .In) (inTD x ks false) := by
  intro ρ M H a b v w Q Rl da db h
  unfold inTD at h
  split at h
  · rename_i z y
    split at h
    · rename_i e
      subst e
      rw [den_str] at da
      subst da
      obtain ⟨p, h1, rfl⟩ := den_fn.mp db
      obtain ⟨p', es, n, g1, g2, g3⟩ := ok
      rw [h1] at g1
      cases g1
      obtain ⟨r, r1, r2⟩ := keys_ns (z := z) g2.at_ g3
      refine ⟨_, op_in_kd g2, z, r, rfl, rfl, r1, ?_⟩
      rw [r2]
      have q := here Rl h (den_bl.mpr rfl)
      simpa using q
    · exact h.elim
  · exact h.elim
theorem o_notInT {x : Str} {ks : List Str} (ok : KTabA X.K X.w x ks) : Op2R X (compareOp .NotIn) (inTD x ks true) := by
  intro ρ M H a b v w Q Rl da db h
  unfold inTD at h
  split at h
  · rename_i z y
    split at h
    · rename_i e
      subst e
      rw [den_str] at da
      subst da
      obtain ⟨p, h1, rfl⟩ := den_fn.mp db
      obtain ⟨p', es, n, g1, g2, g3⟩ := ok
      rw [h1] at g1
      cases g1
      obtain ⟨r, r1, r2⟩ := keys_ns (z := z) g2.at_ g3
      refine ⟨_, op_notIn_kd g2, z, r, rfl, rfl, r1, ?_⟩
      rw [r2]
      have q := here Rl h (den_bl.mpr rfl)
      simpa using q
    · exact h.elim
  · exact h.elim
theorem fix_fn {K : PySem.W.Frag} {n : Str} {a : Addr} (h : PySem.W.nsIn K mainGlobals n = some (some (.ref a))) : Fix K (.fn n) (.ref a) := fun _ _ => den_fn.mpr ⟨a, h, rfl⟩

/-! ### a def held in a name is called -/
def mCallV (fs : List (Str × MF)) (i n : Nat) (ma : MA) : ME := fun env M => match env[i]? with
  | some (some (.fn nm)) => match fs.find? (fun p => decide (p.1 = nm)) with
    | some p => (ma env M).bind fun us M1 => callM p.2 n 0 ((List.range n).map .p) [] us [] M1
    | none => .err
  | _ => .err
/-- such defs -/
def FmAll (P : Program) (w : World) (K : PySem.W.Frag) (mg : Str → Option Value) (base : Heap) (k n : Nat) (fs : List (Str × MF)) : Prop := ∀ p ∈ fs, ∃ (f : Addr) (fd : FuncData) (ps : List Str), mg p.1 = some (.ref f) ∧ PySem.W.keepIn K (.ref f) = true ∧ FnG P w K mg base k f fd ps (spM K ps.length p.2) ∧ ps.length = n ∧ Bd K fd ps n [] [] ((List.range n).map .p)
theorem FmAll.one {P : Program} {w : World} {K : PySem.W.Frag} {mg : Str → Option Value} {base : Heap} {k j n : Nat} {x : Str} {st : Stmt} {ps : List Str} {m : MF} (F : Fm P w K mg base j x st [] [] ps m) (hj : j ≤ k) (hn : ps.length = n) (bd : ∀ f fd, FunD K x x (defArgs st) (defBody st) (defScope st) [] [] f fd → Bd K fd ps n [] [] ((List.range n).map .p)) :
    ∃ (f : Addr) (fd : FuncData) (ps : List Str), mg x = some (.ref f) ∧ PySem.W.keepIn K (.ref f) = true ∧ FnG P w K mg base k f fd ps (spM K ps.length m) ∧ ps.length = n ∧ Bd K fd ps n [] [] ((List.range n).map .p) := by
  obtain ⟨f, fd, a, b, c⟩ := F.ex
  exact ⟨f, fd, ps, a, b.kp, c.mono hj, hn, bd f fd b⟩
theorem s_callV {fs : List (Str × MF)} {k j i n : Nat} {x : Str} {p pos : Pos} {e : Expr} {es : List Expr} {ma : MA} (F : FmAll X.prog X.w X.K X.mg X.base j n fs) (c : Cg X W k) (hj : j ≤ k) (ha : SA X W (e :: es) ma)
    (hN : X.N[i]? = some x := by rfl) (hv : Vis X.env.scope x := by first | exact Or.inl rfl | exact Or.inr (Or.inl rfl) | exact Or.inr (Or.inr rfl)) (hd : (x == ("__debug__" : Str)) = false := by decide) (hcd : (x == ("__classdict__" : Str)) = false := by decide)
    (he : starEach (e :: es) X.env = (false, eval e X.env) :: starEach es X.env := by rfl) (hpl : (backTo pos (starEach es X.env)).any (·.1) = false := by rfl) :
    SE X W (.Call (.Name x p) (e :: es) [] pos) (mCallV fs i n ma) := by
  refine ⟨fun pins s σ H Q I h => ?_⟩
  obtain ⟨ρ, M, env, Rl, E, h⟩ := h
  unfold mCallV at h
  split at h
  rotate_left
  · exact h.elim
  rename_i nm ei
  split at h
  rotate_left
  · exact h.elim
  rename_i q eq
  obtain ⟨v, h1, h2⟩ := E.get i _ ei
  obtain ⟨a, na, rfl⟩ := den_fn.mp h2
  have hq : q.1 = nm := by simpa using List.find?_some eq
  obtain ⟨f, fd, ps, g1, g2, g3, g4, g5⟩ := F q (List.mem_of_find?_eq_some eq)
  have g0 : X.mg nm = some (.ref a) := PySem.W.mg_of I.ok.mod.kin I.ok.mod.glob na
  rw [hq, g0] at g1
  cases g1
  refine wpAny_Call_Name_kw (thn ((pe_var hN hv hd hcd).run pins s σ H (fun u H1 => u = .ref a ∧ H1 = H) I ⟨_, h1, rfl, rfl⟩) fun u s0 ⟨x0, H0, I0, ru, eu, eH⟩ => ?_)
  subst eu eH
  obtain rfl : u = Value.ref a := ru
  refine PySem.W.callWith_K (h₀ := X.base) I0.ok.mod.kin g2 (thn (ha.run pos pins s0 σ H0 (fun vs H1 => ∃ ρ M ds, Rel X.K ρ M H1 ∧ Dens X.K ρ H1 ds vs ∧ Ok X.K ρ H1 (DnD X.K) (fun c d H' => W c d σ H') Q (callM q.2 n 0 ((List.range n).map .p) [] ds [] M)) I0 ?_)
    fun us s1 ⟨vs, H1, I1, r, ρ, M, ds, Rl, d1, q⟩ => ⟨I1.kIn, ?_⟩) he hpl
  · exact tm_bind (f := fun ds env M1 => callM q.2 n 0 ((List.range n).map .p) [] ds [] M1) ⟨ρ, M, env, Rl, E, h⟩ fun ds M1 ρ1 H1 vs env R1 E1 d1 q => ⟨ρ1, M1, ds, R1, d1, q⟩
  · exact call_m (ks := []) (ws := []) (xs := []) (es := []) (dv := []) g3 c hj g5 (fun _ _ => dens_nil.mpr rfl) (by rw [List.length_map, List.length_range]; exact g4.symm) I1 Rl r .nil d1 (dens_nil.mpr rfl) q
end
/-- a def of which nothing is told -/
def mErrF : MF := fun _ _ => .err
theorem fm_err {P : Program} {w : World} {K : PySem.W.Frag} {mg : Str → Option Value} {base : Heap} {k : Nat} {x : Str} {st : Stmt} {dvs : List V} {kws : List (Str × V)} {ps : List Str} (a : At K mg x st dvs kws) : Fm P w K mg base k x st dvs kws ps mErrF := by
  obtain ⟨f, fd, hm, F⟩ := a
  exact ⟨f, fd, hm, F, ⟨fun vs H Q E h => h.1, fun A outer s H args us vs Q E _ _ _ _ _ h => by
    obtain ⟨_, _, _, _, _, _, z⟩ := h
    exact z.elim⟩⟩

/-! ### a cell that is told away as a plain value -/
def frz (d : D) (M : MH) : D × MH := match d with
  | .ref l => match M[l]? with
    | some (.lst ds) => (.lst ds, M.set l .gone)
    | some (.dct kvs) => (.dct (kvs.map (·.1)) (kvs.map (·.2)), M.set l .gone)
    | _ => (d, M)
  | _ => (d, M)
def Rho.off (ρ : Rho) (l : Nat) : Rho := ⟨ρ.c.set l none, ρ.h⟩
section
variable {K : PySem.W.Frag} {ρ : Rho} {M : MH} {H : Hp}
theorem off_mem {l : Nat} {a : Addr} (h : some a ∈ (ρ.off l).c) : some a ∈ ρ.c := by
  rcases List.mem_or_eq_of_mem_set h with h | h
  · exact h
  · cases h
theorem off_get {l j : Nat} {o : Option Addr} (h : ρ.c[j]? = some o) : (ρ.off l).c[j]? = some o ∨ (ρ.off l).c[j]? = some none := by
  by_cases q : l = j
  · subst q
    exact .inr (List.getElem?_set_self (List.getElem?_eq_some_iff.mp h).1)
  · exact .inl (by show (ρ.c.set l none)[j]? = _; rw [List.getElem?_set_ne q]; exact h)
theorem Stp.off (l : Nat) : Stp ρ H (ρ.off l) H := ⟨fun _ _ h => off_get h, fun _ h => .inl (off_mem h), fun _ _ h _ => h, rfl⟩
theorem Rel.off (R : Rel K ρ M H) {l : Nat} (hl : l < M.length) : Rel K (ρ.off l) (M.set l .gone) H where
  len := by
    show (ρ.c.set l none).length = _
    rw [List.length_set, List.length_set]; exact R.len
  hid := fun a m => let ⟨n, x⟩ := R.hid a m; ⟨fun z => n (off_mem z), x⟩
  inj := fun i j a h1 h2 => by
    have g : ∀ k : Nat, (ρ.off l).c[k]? = some (some a) → ρ.c[k]? = some (some a) := fun k h => by
      have h : (ρ.c.set l none)[k]? = some (some a) := h
      by_cases q : l = k
      · subst q
        rw [List.getElem?_set_self (by rw [R.len]; exact hl)] at h
        cases h
      · rw [List.getElem?_set_ne q] at h
        exact h
    exact R.inj i j a (g i h1) (g j h2)
  obj := fun j o e => by
    by_cases q : l = j
    · subst q
      rw [List.getElem?_set_self hl] at e
      cases e
      show (ρ.c.set l none)[l]? = some none
      exact List.getElem?_set_self (by rw [R.len]; exact hl)
    · rw [List.getElem?_set_ne q] at e
      have same : ∀ a : Option Addr, ρ.c[j]? = some a → (ρ.off l).c[j]? = some a := fun a h => by
        show (ρ.c.set l none)[j]? = _
        rw [List.getElem?_set_ne q]; exact h
      have x := R.obj j o e
      cases o with
      | lst ds =>
        obtain ⟨a, xs, h1, h2, h3⟩ := x
        exact ⟨a, xs, same _ h1, h2, Dens.step R (Stp.off l) _ _ h3⟩
      | dct kvs =>
        obtain ⟨a, xs, h1, h2, h3⟩ := x
        exact ⟨a, xs, same _ h1, h2, DenP.step R (Stp.off l) h3⟩
      | ins C fs =>
        obtain ⟨a, Ca, dx, gs, h1, cn, h2, h3⟩ := x
        exact ⟨a, Ca, dx, gs, same _ h1, cn, h2, DenP.step R (Stp.off l) h3⟩
      | gone => exact same _ x
theorem denP_split {κ : Type} {ps : List (κ × D)} {qs : List (κ × V)} (h : DenP K ρ H ps qs) : qs.map (·.1) = ps.map (·.1) ∧ Dens K ρ H (ps.map (·.2)) (qs.map (·.2)) := by
  induction h with
  | nil => exact ⟨rfl, dens_nil.mpr rfl⟩
  | cons r _ ih => exact ⟨by rw [List.map_cons, List.map_cons, ih.1, r.1], dens_cons.mpr ⟨_, _, rfl, r.2, ih.2⟩⟩
theorem off_not (R : Rel K ρ M H) {l : Nat} {a : Addr} (h : ρ.c[l]? = some (some a)) : some a ∉ (ρ.off l).c := fun m => by
  obtain ⟨j, hj⟩ := List.getElem?_of_mem m
  have hj : (ρ.c.set l none)[j]? = some (some a) := hj
  by_cases q : l = j
  · subst q
    rw [List.getElem?_set_self (List.getElem?_eq_some_iff.mp h).1] at hj
    cases hj
  · rw [List.getElem?_set_ne q] at hj
    exact q (R.inj l j a h hj)
theorem frz_ok {d : D} {v : V} (R : Rel K ρ M H) (dv : Den K ρ H d v) : ∃ ρ', Stp ρ H ρ' H ∧ Rel K ρ' (frz d M).2 H ∧ Den K ρ' H (frz d M).1 v := by
  have same : ∃ ρ', Stp ρ H ρ' H ∧ Rel K ρ' M H ∧ Den K ρ' H d v := ⟨ρ, Stp.refl (K := K) (M := M), R, dv⟩
  unfold frz
  split
  · rename_i l
    split
    · rename_i ds hm
      obtain ⟨a, o, rfl, hl, ho⟩ := den_ref.mp dv
      obtain ⟨b, xs, h1, h2, h3⟩ := R.obj l _ hm
      have hl2 := h1
      rw [hl] at h1
      cases h1
      have e := ho b rfl
      subst e
      have nh : b ∉ ρ.h := fun m => (R.hid b m).1 (mem_of_get hl2)
      exact ⟨ρ.off l, Stp.off l, R.off (List.getElem?_eq_some_iff.mp hm).1, den_lst.mpr ⟨b, xs, rfl, .inl ⟨.inl h2, off_not R hl2, nh⟩, Dens.step R (Stp.off l) _ _ h3⟩⟩
    · rename_i kvs hm
      obtain ⟨a, o, rfl, hl, ho⟩ := den_ref.mp dv
      obtain ⟨b, ks, h1, h2, h3⟩ := R.obj l _ hm
      have hl2 := h1
      rw [hl] at h1
      cases h1
      have e := ho b rfl
      subst e
      obtain ⟨g1, g2⟩ := denP_split h3
      exact ⟨ρ.off l, Stp.off l, R.off (List.getElem?_eq_some_iff.mp hm).1, den_dct.mpr ⟨b, ks, rfl, .inl h2, off_not R hl2, g1, Dens.step R (Stp.off l) _ _ g2⟩⟩
    · exact same
  · exact same
end
def mFrz (m : ME) : ME := fun env M => (m env M).bind fun d M1 => .ok (frz d M1).1 (frz d M1).2
section
variable {X : Cx} {W : WX}
theorem s_frz {e : Expr} {m : ME} (h : SE X W e m) : SE X W e (mFrz m) := by
  refine pe_imp h fun σ H Q q => ?_
  refine tm_bind (f := fun d _ M1 => .ok (frz d M1).1 (frz d M1).2) q fun d M1 ρ1 H1 v env R1 E1 dv q1 => ?_
  obtain ⟨ρ2, S, R2, dv2⟩ := frz_ok R1 dv
  exact q1 ρ2 H1 v S R2 dv2

/-! ### methods without arguments; xs.pop() -/
def mMt0 (T : String) (g : OpM) (mo : ME) : ME := fun env M => (mo env M).bind fun x M1 => if rcv T x M1 = true then g x [] M1 else .err
theorem s_mt0 {o : Expr} {mo : ME} {name : Str} {apos cpos : Pos} {T id : String} {g : OpM} (pa : PlainAttrs T) (slot : Slot T name id) (hty : typeOf (.builtin id) = pure (.type "method_descriptor")) (om : OpMR X id g) (q : QuietM g) (ho : SE X W o mo)
    (hbase : attributeBase o name X.env (eval o X.env) = eval o X.env := by rfl) (hline : (apos.endLine == cpos.line) = true := by rfl) : SE X W (.Call (.Attribute o name apos) [] [] cpos) (mMt0 T g mo) := by
  refine ⟨fun pins s σ H Q I h => ?_⟩
  refine (pe_bm0 (r := fun x xs H Q => ∃ r, MtR X id r ∧ r x xs H Q) pa slot hty (fun pins s σ H x xs v us Q I rx rxs ⟨r, hr, h⟩ => hr pins s σ H x xs v us Q I rx rxs h) ho hbase hline).run pins s σ H Q I ?_
  refine tm_bind (f := fun x env M1 => if rcv T x M1 = true then g x [] M1 else .err) h fun x M1 ρ1 H1 v env R1 E1 dx h => ?_
  split at h
  · rename_i rc
    exact ⟨rcv_ty R1 dx rc, om ρ1 M1 H1 x [] v [] Q R1 dx (dens_nil.mpr rfl) (ok_quiet (q x [] M1) h)⟩
  · exact h.elim
def popD : OpM := fun x xs M => match x with
  | .ref l => match M[l]? with
    | some (.lst ds) => match xs with
      | [] => match ds[ds.length - 1]? with
        | some y => .ok y (M.set l (.lst ds.dropLast))
        | none => .err
      | _ => .err
    | _ => .err
  | _ => .err
theorem q_pop : QuietM popD := by
  intro x xs M c fs M' e
  unfold popD at e
  (repeat' split at e) <;> cases e
theorem Dens.dropLast {K : PySem.W.Frag} {ρ : Rho} {H : Hp} {ds : List D} {xs : List V} (h : Dens K ρ H ds xs) : Dens K ρ H ds.dropLast xs.dropLast := by
  rw [List.dropLast_eq_take, List.dropLast_eq_take, h.length]
  exact h.take _
theorem o_pop : OpMR X "list.pop" popD := by
  intro ρ M H x xs v vs Q Rl dx dv h
  unfold popD at h
  split at h
  · rename_i l
    obtain ⟨p, u, rfl, hl, ho⟩ := den_ref.mp dx
    split at h
    · rename_i ds hm
      obtain ⟨b, ys, h1, h2, h3⟩ := Rl.obj l _ hm
      have hl2 := h1
      rw [hl] at h1
      cases h1
      have ep := ho b rfl
      subst ep
      split at h
      · split at h
        · rename_i y ey
          obtain ⟨w, e1, e2⟩ := h3.get ey
          have S : Stp ρ H ρ (upd H b (.lst ys.dropLast)) := Stp.write hl2
          rw [dens_nil] at dv
          refine ⟨_, mt_pop, b, ys, w, rfl, dv, h2, by rw [← h3.length]; exact e1, ?_⟩
          exact h ρ _ w S (Rl.write hl2 ⟨b, ys.dropLast, hl2, upd_same, Dens.step Rl S _ _ h3.dropLast⟩) (Den.step Rl S _ _ e2)
        · exact h.elim
      · exact h.elim
    · exact h.elim
  · exact h.elim
theorem s_pop {o : Expr} {mo : ME} {apos cpos : Pos} (ho : SE X W o mo) (hbase : attributeBase o "pop" X.env (eval o X.env) = eval o X.env := by rfl) (hline : (apos.endLine == cpos.line) = true := by rfl) : SE X W (.Call (.Attribute o "pop" apos) [] [] cpos) (mMt0 "list" popD mo) :=
  s_mt0 PySem.F.plainAttrs_list PySem.F.slot_list_pop PySem.F.type_list_pop o_pop q_pop ho hbase hline

/-! ### min, max of whole numbers in a list -/
def leastI : List Int → Option Int
  | [] => none
  | n :: ns => some (ns.foldl min n)
def greatI : List Int → Option Int
  | [] => none
  | n :: ns => some (ns.foldl max n)
theorem foldl_min : ∀ (ns : List Int) (n : Int), (ns.foldl min n = n ∨ ns.foldl min n ∈ ns) ∧ ns.foldl min n ≤ n ∧ ∀ y ∈ ns, ns.foldl min n ≤ y
  | [], n => ⟨.inl rfl, by simp, fun y h => by simp at h⟩
  | m :: ns, n => by
    obtain ⟨h1, h2, h3⟩ := foldl_min ns (min n m)
    show ((ns.foldl min (min n m) = n ∨ ns.foldl min (min n m) ∈ m :: ns) ∧ ns.foldl min (min n m) ≤ n ∧ ∀ y ∈ m :: ns, ns.foldl min (min n m) ≤ y)
    refine ⟨?_, by omega, fun y hy => ?_⟩
    · rcases h1 with h1 | h1
      · rw [h1]
        by_cases q : n ≤ m
        · exact .inl (by omega)
        · exact .inr (by rw [show min n m = m by omega]; exact List.mem_cons_self)
      · exact .inr (List.mem_cons_of_mem _ h1)
    · rcases List.mem_cons.mp hy with rfl | hy
      · omega
      · exact h3 y hy
theorem leastI_of {ns : List Int} {m : Int} (h : m ∈ ns) (l : ∀ y ∈ ns, m ≤ y) : leastI ns = some m := by
  cases ns with
  | nil => simp at h
  | cons n ns =>
    obtain ⟨h1, h2, h3⟩ := foldl_min ns n
    have a : m ≤ ns.foldl min n := by
      rcases h1 with h1 | h1
      · rw [h1]; exact l n List.mem_cons_self
      · exact l _ (List.mem_cons_of_mem _ h1)
    have b : ns.foldl min n ≤ m := by
      rcases List.mem_cons.mp h with rfl | h
      · exact h2
      · exact h3 m h
    show some (ns.foldl min n) = some m
    rw [show ns.foldl min n = m by omega]
def min1D : OpN := fun xs M => match xs with
  | [.lst ds] => match intsD ds with
    | some ns => match leastI ns with
      | some m => .ok (.int m) M
      | none => .err
    | none => .err
  | _ => .err
theorem q_min1 : QuietN min1D := by
  intro x M c fs M' e
  unfold min1D at e
  (repeat' split at e) <;> cases e
theorem o_min1 (hc : X.calm = true) : OpNR X (.builtin "min") min1D := by
  intro ρ M H xs vs Q Rl dv h
  unfold min1D at h
  split at h
  · obtain ⟨v, rfl, d⟩ := dens_one dv
    obtain ⟨a, ys, rfl, hs, hd⟩ := den_lst.mp d
    split at h
    · rename_i ns e
      rw [intsD_eq e] at hd
      rw [dens_ints_inv hd] at hs
      split at h
      · rename_i m em
        refine ⟨_, cr_min hc, a, ns, rfl, hs.sq, ?_, fun k hk hle => ?_⟩
        · cases ns with
          | nil => cases em
          | cons _ _ => simp
        · rw [leastI_of hk hle] at em
          cases em
          exact here Rl h (den_int.mpr rfl)
      · exact h.elim
    · exact h.elim
  · exact h.elim
end
end Mi

end

section
/-! Mi, part 28: dict comprehensions; walks over a dict's keys. -/
namespace Mi
open PySem PySem.Spec PyProof.Rows L2
/-- one turn of a dict comprehension -/
def dcOne (g : D → En → Option En) (t : MT) (k v : ME) (env : En) : D → MH → R (Option (Key × D)) := fun x M => match g x env with
  | some env' => (noX (t env' M)).bind fun b M1 => if b = true then (noX (k env' M1)).bind fun y M2 => (noX (v env' M2)).bind fun z M3 => match keyOf y with
      | some kk => .ok (some (kk, z)) M3
      | none => .err
    else .ok none M1
  | none => .err
def dcPut (l : Nat) (o : Option (Key × D)) (M : MH) : Option MH := match o with
  | none => some M
  | some (k, z) => match M[l]? with
    | some (.dct kvs) => if kvs.length < lim then some (M.set l (.dct (putM kvs k z))) else none
    | _ => none
def dcGo (f : D → MH → R (Option (Key × D))) (l : Nat) : List D → MH → R Unit
  | [], M => .ok () M
  | x :: xs, M => (f x M).bind fun o M1 => match dcPut l o M1 with
    | some M2 => dcGo f l xs M2
    | none => .err
def mDc (mi : MA) (g : D → En → Option En) (t : MT) (k v : ME) (vs : List Nat) : ME := fun env M => (mi env M).bind fun items M1 => (dcGo (dcOne g t k v (wipeE env vs)) M1.length items (M1 ++ [.dct []])).bind fun _ M2 => .ok (.ref M1.length) M2
section
variable {K : PySem.W.Frag}
/-- how far it has come -/
def DcP (K : PySem.W.Frag) (ρ0 : Rho) (H0 : Hp) (l : Nat) (f : D → MH → R (Option (Key × D))) (items : List D) (M0 : MH) (i : Nat) (H : Hp) : Prop :=
  ∃ ρ M, Rel K ρ M H ∧ Stp ρ0 H0 ρ H ∧ dcGo f l items M0 = dcGo f l (items.drop i) M
theorem noX_ok {α : Type} (a : α) (M : MH) : noX (.ok a M) = .ok a M := rfl
theorem noX_err {α : Type} {r : R α} (h : noX r ≠ .err) : ∃ a M, r = .ok a M := by
  cases r with
  | ok a M => exact ⟨a, M, rfl⟩
  | exc c fs M => exact absurd rfl h
  | err => exact absurd rfl h
/-- the walk of a dict comprehension, whatever is walked -/
theorem dc_go {K : PySem.W.Frag} {js vs : List Nat} {g : D → En → Option En} {mt : MT} {mk mv : ME} {Wf : Value → Option Addr → Hp → Prop} {σ : L2.St} {Q : VK} {items : List D} {M1 : MH} {ρ1 : Rho} {H1 : Hp} {J : It} {env : En} {Dl : Addr} (hj : ∀ j ∈ js, j ∈ vs) (R1 : Rel K ρ1 M1 H1) (E1 : EnR K ρ1 H1 env σ) (wk : Wk K ρ1 H1 J items)
    (h : Ok K ρ1 H1 (DnD K) Wf Q ((dcGo (dcOne g mt mk mv (wipeE env vs)) M1.length items (M1 ++ [.dct []])).bind fun _ M2 => (R.ok (D.ref M1.length) M2 : R D))) (hD : H1 Dl = none) :
    ∃ W : Nat → Nat → Hp → Prop, (∃ m, W 0 m (upd H1 Dl (.dK []))) ∧ ∀ i m H, W i m H →
      (J.stop i H ∧ Q (.ref Dl) H) ∨ (J.go i H ∧ ∃ Nx : Hp → Prop, (∀ H', Nx H' → ∃ m', m' < m ∧ W (i + 1) m' H') ∧ ∀ x H', J.yld i H x H' → gW K js g x (L2.wipe σ vs) H' fun σ2 H2 => L2.wipe σ2 vs = L2.wipe σ vs ∧ tm K DnB W0 mt σ2 H2 fun b H3 =>
        if b = true then tm K (DnD K) W0 mk σ2 H3 fun y H4 => tm K (DnD K) W0 mv σ2 H4 fun z H5 => ∃ kvs k, y = kV k ∧ H5 Dl = some (.dK kvs) ∧ kvs.length < sizeLine ∧ Nx (upd H5 Dl (.dK (putK kvs k z))) else Nx H3) := by
  have wk' : Wk K ρ1 H1 J items := wk
  have S0 : Stp ρ1 H1 (ρ1.add Dl) (upd H1 Dl (.dK [])) := Stp.cell hD
  have R0 : Rel K (ρ1.add Dl) (M1 ++ [.dct []]) (upd H1 Dl (.dK [])) := R1.cell hD ⟨Dl, [], R1.lastAt, upd_same, .nil⟩
  have at0 : (ρ1.add Dl).c[M1.length]? = some (some Dl) := R1.lastAt
  have tot : dcGo (dcOne g mt mk mv (wipeE env vs)) M1.length items (M1 ++ [.dct []]) ≠ .err := fun e => by
    rw [e] at h
    exact h
  refine ⟨fun i m H' => m = items.length - i ∧ i ≤ items.length ∧ DcP K (ρ1.add Dl) (upd H1 Dl (.dK [])) M1.length (dcOne g mt mk mv (wipeE env vs)) items (M1 ++ [.dct []]) i H', ⟨items.length, by simp, Nat.zero_le _, ρ1.add Dl, M1 ++ [.dct []], R0, Stp.refl (K := K) (M := M1 ++ [.dct []]), by rw [List.drop_zero]⟩, ?_⟩
  rintro i m H' ⟨rfl, hi', ρ, M, Rl, S, eq⟩
  have S1 : Stp ρ1 H1 ρ H' := S0.trans S
  have T1 : Tr ρ1 H1 ρ H' := S1.tr R1
  by_cases hlt : i < items.length
  · refine .inr ⟨wk'.goes i _ M H' hlt Rl T1 (S1.fk R1), fun H'' => i + 1 ≤ items.length ∧ DcP K (ρ1.add Dl) (upd H1 Dl (.dK [])) M1.length (dcOne g mt mk mv (wipeE env vs)) items (M1 ++ [.dct []]) (i + 1) H'', fun H'' p => ⟨items.length - (i + 1), by omega, rfl, p.1, p.2⟩, fun x H2 y => ?_⟩
    have hx : items[i]? = some items[i] := List.getElem?_eq_getElem hlt
    obtain ⟨R2, S2, dx⟩ := wk'.yields i _ M H' x H2 items[i] hx Rl T1 (S1.fk R1) y
    rw [drop_cons hx] at eq
    have nerr : (dcOne g mt mk mv (wipeE env vs) items[i] M).bind (fun o M1' => match dcPut M1.length o M1' with | some M2 => dcGo (dcOne g mt mk mv (wipeE env vs)) M1.length (items.drop (i + 1)) M2 | none => .err) ≠ .err := fun z => tot (by rw [eq]; exact z)
    cases hgx : g items[i] (wipeE env vs) with
    | none =>
      refine absurd ?_ nerr
      unfold dcOne
      rw [hgx]
      rfl
    | some env' =>
      have step : dcOne g mt mk mv (wipeE env vs) items[i] M = (noX (mt env' M)).bind fun b M1 => if b = true then (noX (mk env' M1)).bind fun y M2 => (noX (mv env' M2)).bind fun z M3 => match keyOf y with | some kk => .ok (some (kk, z)) M3 | none => .err else .ok none M1 := by
        unfold dcOne
        rw [hgx]
      rw [step] at nerr
      have eq2 : dcGo (dcOne g mt mk mv (wipeE env vs)) M1.length items (M1 ++ [.dct []]) = (dcOne g mt mk mv (wipeE env vs) items[i] M).bind fun o M1' => match dcPut M1.length o M1' with | some M2 => dcGo (dcOne g mt mk mv (wipeE env vs)) M1.length (items.drop (i + 1)) M2 | none => .err := eq
      rw [step] at eq2
      have E2 : EnR K ρ H2 (wipeE env vs) (L2.wipe σ vs) := ((E1.tr T1).step Rl S2).wipe _
      refine ⟨ρ, M, items[i], _, env', R2, E2, dx, hgx, fun σ2 E3 l3 keep => ⟨wipe_same (by rw [l3, wipe_length]) fun k hk => keep k fun z => hk (hj k z), ?_⟩⟩
      refine ⟨ρ, M, env', R2, E3, ?_⟩
      obtain ⟨b, M3, ht1⟩ := noX_err (r := mt env' M) (fun z => nerr (by rw [z]; rfl))
      rw [ht1] at nerr eq2 ⊢
      simp only [noX_ok, R.bind_ok] at nerr eq2
      intro ρ3 H3 b' S3 R3 eb
      cases (show b = b' from eb)
      have Sx : Stp (ρ1.add Dl) (upd H1 Dl (.dK [])) ρ3 H3 := (S.trans S2).trans S3
      cases b with
      | false =>
        show (if false = true then _ else _)
        rw [if_neg (by decide)]
        exact ⟨hlt, ρ3, M3, R3, Sx, eq2⟩
      | true =>
        show (if true = true then _ else _)
        rw [if_pos rfl]
        simp only [if_true] at nerr eq2
        refine ⟨ρ3, M3, env', R3, E3.step R2 S3, ?_⟩
        obtain ⟨y, M4, hk1⟩ := noX_err (r := mk env' M3) (fun z => nerr (by rw [z]; rfl))
        rw [hk1] at nerr eq2 ⊢
        simp only [noX_ok, R.bind_ok] at nerr eq2
        intro ρ4 H4 vy S4 R4 dy
        refine ⟨ρ4, M4, env', R4, (E3.step R2 S3).step R3 S4, ?_⟩
        obtain ⟨z, M5, hv1⟩ := noX_err (r := mv env' M4) (fun z => nerr (by rw [z]; rfl))
        rw [hv1] at nerr eq2 ⊢
        simp only [noX_ok, R.bind_ok] at nerr eq2
        intro ρ5 H5 vz S5 R5 dz
        cases hkey : keyOf y with
        | none => rw [hkey] at nerr; exact absurd rfl nerr
        | some kk =>
          rw [hkey] at nerr eq2
          simp only [R.bind_ok] at nerr eq2
          have Sy : Stp (ρ1.add Dl) (upd H1 Dl (.dK [])) ρ5 H5 := (Sx.trans S4).trans S5
          have hput : ∃ kvs, M5[M1.length]? = some (.dct kvs) ∧ kvs.length < lim := by
            unfold dcPut at nerr
            simp only at nerr
            split at nerr
            · rename_i M2 e
              split at e
              · rename_i kvs hm
                split at e
                · rename_i hz
                  exact ⟨kvs, hm, hz⟩
                · cases e
              · cases e
            · exact absurd rfl nerr
          obtain ⟨kvs, hm, hz⟩ := hput
          have eput : dcPut M1.length (some (kk, z)) M5 = some (M5.set M1.length (.dct (putM kvs kk z))) := by
            unfold dcPut
            simp only [hm]
            rw [if_pos hz]
          rw [eput] at eq2
          obtain ⟨a, ks, h1, h2, h3⟩ := R5.obj _ _ hm
          have ea : a = Dl := by
            rcases Sy.pre _ _ at0 with q | q
            · rw [h1] at q; cases q; rfl
            · rw [h1] at q; cases q
          subst ea
          have SS : Stp ρ5 H5 ρ5 (upd H5 a (.dK (putK ks kk vz))) := Stp.write h1
          refine ⟨ks, kk, ?_, h2, by rw [← Paired.length h3]; exact lim_lt hz, hlt, ρ5, M5.set M1.length (.dct (putM kvs kk z)), R5.write h1 ⟨a, putK ks kk vz, h1, upd_same, DenP.step R5 SS (denP_put h3 dz)⟩, Sy.trans SS, eq2⟩
          exact keyOf_v hkey (Den.step R4 S5 _ _ dy)
  · have e : i = items.length := by omega
    subst e
    refine .inl ⟨wk'.stops _ M H' Rl T1 (S1.fk R1), ?_⟩
    rw [List.drop_length] at eq
    have eq2 : dcGo (dcOne g mt mk mv (wipeE env vs)) M1.length items (M1 ++ [.dct []]) = .ok () M := eq
    rw [eq2] at h
    refine h ρ H' (.ref Dl) S1 Rl ?_
    rcases S.pre _ _ at0 with q | q
    · exact den_ref.mpr ⟨Dl, some Dl, rfl, q, fun b e => (Option.some.inj e).symm⟩
    · exact den_ref.mpr ⟨Dl, none, rfl, q, fun b e => by cases e⟩
theorem dc_imp {K : PySem.W.Frag} {mi : MA} {js vs : List Nat} {g : D → En → Option En} {mt : MT} {mk mv : ME} {W : WX} {σ : L2.St} {H : Hp} {Q : VK} (hj : ∀ j ∈ js, j ∈ vs) (h : tm K (DnD K) W (mDc mi g mt mk mv vs) σ H Q) :
    tDc (tm K (DnI K) W mi) (gW K js g) (tm K DnB W0 mt) (tm K (DnD K) W0 mk) (tm K (DnD K) W0 mv) vs σ H Q := by
  refine tm_bind (f := fun items env M1 => (dcGo (dcOne g mt mk mv (wipeE env vs)) M1.length items (M1 ++ [.dct []])).bind fun _ M2 => (R.ok (D.ref M1.length) M2 : R D)) h fun items M1 ρ1 H1 J env R1 E1 wk h => ?_
  exact fun Dl hD => dc_go hj R1 E1 wk h hD
/-! ### over a dict's keys: it is locked meanwhile -/
def keyD : Key → D
  | .inl i => .int i
  | .inr x => .str x
theorem den_key {K : PySem.W.Frag} {ρ : Rho} {H : Hp} (k : Key) : Den K ρ H (keyD k) (kV k) := by
  cases k with
  | inl i => exact den_int.mpr rfl
  | inr x => exact den_str.mpr rfl
theorem wk_keys {K : PySem.W.Frag} {ρ : Rho} {M : MH} {H : Hp} {d : Addr} {o : Obj} {kvs : List (Key × V)} (hd : H d = some (.frz o (.dK kvs))) : Wk K ρ H (Itk d o kvs) ((kvs.map (·.1)).map keyD) where
  goes := fun i ρ' M' H' hi R' S f => ⟨f d o _ hd, by simpa using hi⟩
  stops := fun ρ' M' H' R' S f => ⟨f d o _ hd, by simp⟩
  yields := fun i ρ' M' H' x H'' e he R' S f y => by
    obtain ⟨rfl, k, v, h1, rfl⟩ := y
    rw [List.getElem?_map, List.getElem?_map, h1] at he
    cases he
    exact ⟨R', Stp.refl (K := K) (M := M'), den_key k⟩
section
variable {K : PySem.W.Frag} {ρ : Rho} {M : MH} {H : Hp} {d : Addr} {o : Obj} {kvs : List (Key × V)}
theorem Tr.lock (hd : H d = some (.dK kvs)) : Tr ρ H ρ (upd H d (.frz o (.dK kvs))) where
  pre := fun _ _ h => .inl h
  lst := fun a xs h n m => by
    have ne : a ≠ d := fun e => by
      subst e
      rcases h with h | ⟨u, h⟩ <;> (rw [hd] at h; cases h)
    refine ⟨?_, n, m⟩
    rcases h with h | ⟨u, h⟩
    · exact .inl (by rw [upd_ne ne]; exact h)
    · exact .inr ⟨u, by rw [upd_ne ne]; exact h⟩
  tup := fun a xs h => by
    have ne : a ≠ d := fun e => by
      subst e
      rcases h with h | ⟨u, h⟩ <;> (rw [hd] at h; cases h)
    rcases h with h | ⟨u, h⟩
    · exact .inl (by rw [upd_ne ne]; exact h)
    · exact .inr ⟨u, by rw [upd_ne ne]; exact h⟩
  dct := fun a ks h n => by
    by_cases e : a = d
    · subst e
      rcases h with h | ⟨u, h⟩
      · rw [hd] at h; cases h
        exact ⟨.inr ⟨o, upd_same⟩, n⟩
      · rw [hd] at h; cases h
    · rcases h with h | ⟨u, h⟩
      · exact ⟨.inl (by rw [upd_ne e]; exact h), n⟩
      · exact ⟨.inr ⟨u, by rw [upd_ne e]; exact h⟩, n⟩
  ext := fun a φ h => by
    have ne : a ≠ d := fun e => by subst e; rw [hd] at h; cases h
    rw [upd_ne ne]; exact h
  xd := fun a φ h => by
    have ne : a ≠ d := fun e => by subst e; rw [hd] at h; cases h
    rw [upd_ne ne]; exact h
theorem Tr.unlock (hd : H d = some (.frz o (.dK kvs))) : Tr ρ H ρ (upd H d (.dK kvs)) where
  pre := fun _ _ h => .inl h
  lst := fun a xs h n m => by
    have ne : a ≠ d := fun e => by
      subst e
      rcases h with h | ⟨u, h⟩ <;> (rw [hd] at h; cases h)
    refine ⟨?_, n, m⟩
    rcases h with h | ⟨u, h⟩
    · exact .inl (by rw [upd_ne ne]; exact h)
    · exact .inr ⟨u, by rw [upd_ne ne]; exact h⟩
  tup := fun a xs h => by
    have ne : a ≠ d := fun e => by
      subst e
      rcases h with h | ⟨u, h⟩ <;> (rw [hd] at h; cases h)
    rcases h with h | ⟨u, h⟩
    · exact .inl (by rw [upd_ne ne]; exact h)
    · exact .inr ⟨u, by rw [upd_ne ne]; exact h⟩
  dct := fun a ks h n => by
    by_cases e : a = d
    · subst e
      rcases h with h | ⟨u, h⟩
      · rw [hd] at h; cases h
      · rw [hd] at h; cases h
        exact ⟨.inl upd_same, n⟩
    · rcases h with h | ⟨u, h⟩
      · exact ⟨.inl (by rw [upd_ne e]; exact h), n⟩
      · exact ⟨.inr ⟨u, by rw [upd_ne e]; exact h⟩, n⟩
  ext := fun a φ h => by
    have ne : a ≠ d := fun e => by subst e; rw [hd] at h; cases h
    rw [upd_ne ne]; exact h
  xd := fun a φ h => by
    have ne : a ≠ d := fun e => by subst e; rw [hd] at h; cases h
    rw [upd_ne ne]; exact h
/-- another thing at d, which is no cell: the cells stand -/
theorem Rel.at_d (R : Rel K ρ M H) {u v : HO} (hd : H d = some u) (nl : ∀ xs, u ≠ .lst xs) (n : some d ∉ ρ.c) (T : Tr ρ H ρ (upd H d v)) : Rel K ρ M (upd H d v) :=
  R.tr T rfl (fun a o m h => by
    have ne : a ≠ d := fun e => n (e ▸ m)
    rw [upd_ne ne]; exact h) fun a m => by
    obtain ⟨n2, xs, e⟩ := R.hid a m
    have ne : a ≠ d := fun z => by
      subst z
      rw [hd] at e
      exact nl xs (Option.some.inj e)
    exact ⟨n2, xs, by rw [upd_ne ne]; exact e⟩
theorem dcGo_ne {g : D → En → Option En} {t : MT} {k v : ME} {env : En} {l : Nat} : ∀ {items : List D} {M : MH} (c : Str) (fs : Option (List (Str × D))) (M' : MH), dcGo (dcOne g t k v env) l items M ≠ .exc c fs M'
  | [], M, c, fs, M', e => by cases e
  | x :: xs, M, c, fs, M', e => by
    unfold dcGo at e
    cases q : dcOne g t k v env x M with
    | ok o M1 =>
      rw [q] at e
      simp only [R.bind_ok] at e
      split at e
      · exact dcGo_ne c fs M' e
      · cases e
    | err => rw [q] at e; cases e
    | exc c2 f2 M2 =>
      unfold dcOne at q
      cases hg : g x env with
      | none => rw [hg] at q; cases q
      | some env' =>
        rw [hg] at q
        simp only at q
        cases ht : t env' M with
        | err => rw [ht] at q; cases q
        | exc _ _ _ => rw [ht] at q; cases q
        | ok b M3 =>
          rw [ht] at q
          simp only [noX_ok, R.bind_ok] at q
          cases b with
          | false => cases q
          | true =>
            simp only [if_true] at q
            cases hk : k env' M3 with
            | err => rw [hk] at q; cases q
            | exc _ _ _ => rw [hk] at q; cases q
            | ok y M4 =>
              rw [hk] at q
              simp only [noX_ok, R.bind_ok] at q
              cases hv : v env' M4 with
              | err => rw [hv] at q; cases q
              | exc _ _ _ => rw [hv] at q; cases q
              | ok z M5 =>
                rw [hv] at q
                simp only [noX_ok, R.bind_ok] at q
                split at q <;> cases q
/-- from within the lock -/
theorem ok_unlock {W W' : Value → Option Addr → Hp → Prop} {Q : VK} {r : R D} (Rl : Rel K ρ M H) (hd : H d = some (.dK kvs)) (n : some d ∉ ρ.c) (ne : ∀ c fs M', r ≠ .exc c fs M') (h : Ok K ρ H (DnD K) W Q r) :
    Ok K ρ (upd H d (.frz o (.dK kvs))) (DnD K) W' (fun v H' => H' d = some (.frz o (.dK kvs)) ∧ Q v (upd H' d (.dK kvs))) r := by
  cases r with
  | err => exact h
  | exc c fs M' => exact absurd rfl (ne c fs M')
  | ok a M' =>
    intro ρ' H' v S R' dv
    have e : H' d = some (.frz o (.dK kvs)) := S.keep d _ upd_same n
    have n' : some d ∉ ρ'.c := S.notin upd_same n
    have T : Tr ρ' H' ρ' (upd H' d (.dK kvs)) := Tr.unlock e
    refine ⟨e, h ρ' _ v ⟨S.pre, fun x m => ?_, fun x u hx nx => ?_, S.hid⟩ (R'.at_d e (fun _ z => nomatch z) n' T) (Den.tr T _ _ dv)⟩
    · rcases S.new x m with q | q
      · exact .inl q
      · by_cases hx : x = d
        · rw [hx, upd_same] at q; cases q
        · rw [upd_ne hx] at q; exact .inr q
    · by_cases hxd : x = d
      · subst hxd
        rw [hd] at hx; cases hx
        exact upd_same
      · rw [upd_ne hxd]
        exact S.keep x u (by rw [upd_ne hxd]; exact hx) nx
end
/-- the keys of the dict in a slot -/
def mKeys (i : Nat) : MA := fun env M => match env[i]? with
  | some (some (.dct ks _)) => .ok (ks.map keyD) M
  | _ => .err
end
section
variable {X : Cx} {W : WX} {kx vx tg iter : Expr} {ifs : List Expr} {scope : Scope} {own : List (Str × Nat)} {pos : Pos} {mi : MA} {js : List Nat} {g : D → En → Option En} {mt : MT} {mk mv : ME}
theorem s_dc (hc : X.calm = true) (hN : X.N.Nodup) (hi : SI X W tg iter mi) (ok : BlkOk X.N X.env.scope scope own) (hj : ∀ j ∈ js, j ∈ own.map (·.2))
    (hg : ∀ (s : Shared) (H : Hp) (C : Addr) (cl : List (Str × Addr)) (fp : List Addr), SG (X.blk s H scope (compEnvC scope cl C X.env) fp) tg js g)
    (ht : ∀ (s : Shared) (H : Hp) (C : Addr) (cl : List (Str × Addr)) (fp : List Addr), SPt (X.blk s H scope (compEnvC scope cl C X.env) fp) W0 ifs mt)
    (hk : ∀ (s : Shared) (H : Hp) (C : Addr) (cl : List (Str × Addr)) (fp : List Addr), SE (X.blk s H scope (compEnvC scope cl C X.env) fp) W0 kx mk)
    (hv : ∀ (s : Shared) (H : Hp) (C : Addr) (cl : List (Str × Addr)) (fp : List Addr), SE (X.blk s H scope (compEnvC scope cl C X.env) fp) W0 vx mv) (hs : ∀ x, foldedSetIterable iter X.env x = pure x := by intro _; rfl) :
    SE X W (.DictComp kx vx [⟨tg, iter, ifs, 0⟩] scope pos) (mDc mi g mt mk mv (own.map (·.2))) :=
  pe_imp (pe_dc (g := gW X.K js g) (tt := tm X.K DnB W0 mt) (tk := tm X.K (DnD X.K) W0 mk) (tv := tm X.K (DnD X.K) W0 mv) hc hN hi ok (fun s H C cl fp => gW_of (hg s H C cl fp)) (fun s H C cl fp => ht s H C cl fp) (fun s H C cl fp => hk s H C cl fp) (fun s H C cl fp => hv s H C cl fp) hs) fun _ _ _ h => dc_imp hj h
/-- name = {..: .. for .. in ..} -/
theorem ps_setDc {i : Nat} {y : Str} {py spos : Pos} {wi : TI} {gt : TG} {tt : TT} {tk tv : TE} (hc : X.calm = true) (hN : X.N.Nodup) (hy : X.N[i]? = some y) (hyl : X.env.scope.names.lookup y = some .local) (hsw : swapsWith (.DictComp kx vx [⟨tg, iter, ifs, 0⟩] scope pos) (some (.Name y py)) spos.line X.env = pure true)
    (hi : PI X tg iter wi) (ok : BlkOk X.N X.env.scope scope own)
    (hg : ∀ (s : Shared) (H : Hp) (C : Addr) (cl : List (Str × Addr)) (fp : List Addr), PG (X.blk s H scope (compEnvC scope cl C X.env) fp) tg gt) (ht : ∀ (s : Shared) (H : Hp) (C : Addr) (cl : List (Str × Addr)) (fp : List Addr), PTs (X.blk s H scope (compEnvC scope cl C X.env) fp) ifs tt)
    (hk : ∀ (s : Shared) (H : Hp) (C : Addr) (cl : List (Str × Addr)) (fp : List Addr), PE (X.blk s H scope (compEnvC scope cl C X.env) fp) kx tk)
    (hv : ∀ (s : Shared) (H : Hp) (C : Addr) (cl : List (Str × Addr)) (fp : List Addr), PE (X.blk s H scope (compEnvC scope cl C X.env) fp) vx tv) (hs : ∀ x, foldedSetIterable iter X.env x = pure x := by intro _; rfl) :
    PS X (.Assign [.Name y py] (.DictComp kx vx [⟨tg, iter, ifs, 0⟩] scope pos) spos) (tAsg (tDc wi gt tt tk tv (own.map (·.2))) (gName i)) := by
  refine ⟨fun pins s σ H En I h => ?_⟩
  rw [exec_Assign_Name_used _ _ _ _ hsw]
  refine wpAny_bind (wpAny_standAt (wpAny_bind ?_))
  show wpAny _ X.A (do let _ ← comprehension (.DictComp kx vx [⟨tg, iter, ifs, 0⟩] scope pos) scope X.env (firstIterPos [⟨tg, iter, ifs, 0⟩] pos) newDict false (eval iter X.env) (some (assign (.Name y py) X.env))) _ _ s
  have h' : tDc wi gt tt tk tv (own.map (·.2)) σ H (fun x H1 => gName i x σ H1 En.nx) := h
  refine wpAny_bind (thn (dc_core (Qf := fun _ s' => SP X pins En .next s') hc hN I hi ok hg ht hk hv hs h' fun L C s' m H' I' q hn f => ?_) fun _ s' hq => wpAny_pure (wpAny_pure hq))
  show wpAny _ _ (assign (.Name y py) X.env (.ref L)) _ _ _
  refine wpAny_assign_Name (store_ok2 (v := V.ref L) I' hN hy (.inl hyl) rfl (fun s2 I2 ⟨a, sb, ha⟩ => ?_) (.inr hyl))
  rcases f with ⟨f0, f1, f2, f3, f4, f5⟩
  have far : C ≠ a := by
    rcases ha with z | z
    · exact fun e => f1 (e.trans z)
    · exact fun e => f4 y a z e.symm
  exact ⟨m, hn.sameBut sb far, fun h3 sb3 => ⟨_, H', I2.turned (t' := s2.toks) (fun b o hb e => (sb3.2 b hb).trans e) f0 f1 f3 f4 f5, q⟩⟩
theorem sw_dict {sc : Scope} {py : Pos} {y : Str} {l : Nat} {env : Env} {gs : List Comprehension} (hk : env.scope.kind = .function) (hy : env.scope.names.lookup y = some .local) (hl : (py.line == pos.line) = true)
    (ha : (sc.names.any fun (n, k) => n == y && (k == .local || k == .cell)) = false) : swapsWith (.DictComp kx vx gs sc pos) (some (.Name y py)) l env = pure true := by
  have ky : env.kindOf y = some .local := hy
  have hb : env.blockKind = .function := by unfold Env.blockKind; rw [hk]; rfl
  simp only [swapsWith, hb, ky, ha, Expr.pos, hl]
  rfl
theorem c_setDc {i : Nat} {y : Str} {py spos : Pos} (hc : X.calm = true) (hN : X.N.Nodup) (hi : SI X W tg iter mi) (ok : BlkOk X.N X.env.scope scope own) (hj : ∀ j ∈ js, j ∈ own.map (·.2))
    (hg : ∀ (s : Shared) (H : Hp) (C : Addr) (cl : List (Str × Addr)) (fp : List Addr), SG (X.blk s H scope (compEnvC scope cl C X.env) fp) tg js g)
    (ht : ∀ (s : Shared) (H : Hp) (C : Addr) (cl : List (Str × Addr)) (fp : List Addr), SPt (X.blk s H scope (compEnvC scope cl C X.env) fp) W0 ifs mt)
    (hk : ∀ (s : Shared) (H : Hp) (C : Addr) (cl : List (Str × Addr)) (fp : List Addr), SE (X.blk s H scope (compEnvC scope cl C X.env) fp) W0 kx mk)
    (hv : ∀ (s : Shared) (H : Hp) (C : Addr) (cl : List (Str × Addr)) (fp : List Addr), SE (X.blk s H scope (compEnvC scope cl C X.env) fp) W0 vx mv)
    (hsw : swapsWith (.DictComp kx vx [⟨tg, iter, ifs, 0⟩] scope pos) (some (.Name y py)) spos.line X.env = pure true) (hy : X.N[i]? = some y := by rfl) (hyl : X.env.scope.names.lookup y = some .local := by rfl) (hs : ∀ x, foldedSetIterable iter X.env x = pure x := by intro _; rfl) :
    SS X W (.Assign [.Name y py] (.DictComp kx vx [⟨tg, iter, ifs, 0⟩] scope pos) spos) (cAsg (mDc mi g mt mk mv (own.map (·.2))) (gNam i)) := by
  refine ps_imp (ps_setDc (gt := gW X.K js g) (tt := tm X.K DnB W0 mt) (tk := tm X.K (DnD X.K) W0 mk) (tv := tm X.K (DnD X.K) W0 mv) hc hN hy hyl hsw hi ok (fun s H C cl fp => gW_of (hg s H C cl fp)) (fun s H C cl fp => ht s H C cl fp) (fun s H C cl fp => hk s H C cl fp) (fun s H C cl fp => hv s H C cl fp) hs) fun D σ H q => ?_
  obtain ⟨ρ, M, env, Rl, E, q⟩ := q
  refine dc_imp (W := W) hj (andS_tm Rl E q fun d M1 ρ1 H1 v R1 E1 dv q1 => ?_)
  exact q1 ρ1 H1 _ (Stp.refl (K := X.K) (M := M1)) R1 (E1.set i dv)
end
section
variable {X : Cx} {W : WX} {kx vx tg : Expr} {ifs : List Expr} {scope : Scope} {own : List (Str × Nat)} {pos p0 : Pos} {js : List Nat} {g : D → En → Option En} {mt : MT} {mk mv : ME} {i0 : Nat} {x0 : Str}
/-- what the reading of the keys' walk is -/
theorem keys_reading {σ : L2.St} {H : Hp} {Q : VK} (hj : ∀ j ∈ js, j ∈ own.map (·.2)) (h : tm X.K (DnD X.K) W (mDc (mKeys i0) g mt mk mv (own.map (·.2))) σ H Q) :
    (∃ d kvs, H d = some (.dK kvs) ∧ ∀ o, tDc (iKeys (tVar i0)) (gW X.K js g) (tm X.K DnB W0 mt) (tm X.K (DnD X.K) W0 mk) (tm X.K (DnD X.K) W0 mv) (own.map (·.2)) σ (upd H d (.frz o (.dK kvs))) (fun v H' => H' d = some (.frz o (.dK kvs)) ∧ Q v (upd H' d (.dK kvs)))) ∨
      tDc (iKeys (tVar i0)) (gW X.K js g) (tm X.K DnB W0 mt) (tm X.K (DnD X.K) W0 mk) (tm X.K (DnD X.K) W0 mv) (own.map (·.2)) σ H Q := by
  obtain ⟨ρ, M, env, Rl, E, h⟩ := h
  unfold mDc mKeys at h
  split at h
  · rename_i ks ds e
    simp only [R.bind_ok] at h
    obtain ⟨v, h1, h2⟩ := E.get i0 _ e
    obtain ⟨d, kvs, rfl, hd, n, rfl, _⟩ := den_dct.mp h2
    rcases hd with hd | ⟨o, hd⟩
    · refine .inl ⟨d, kvs, hd, fun o => ⟨.ref d, h1, d, o, rfl, .inl ⟨kvs, upd_same, fun Dl hD => ?_⟩⟩⟩
      have T : Tr ρ H ρ (upd H d (.frz o (.dK kvs))) := Tr.lock hd
      exact dc_go hj (Rl.at_d hd (fun _ z => nomatch z) n T) (E.tr T) (wk_keys (M := M) upd_same) (ok_unlock (W' := fun _ _ _ => False) Rl hd n (fun c fs M' z => by
        cases q : dcGo (dcOne g mt mk mv (wipeE env (own.map (·.2)))) M.length ((kvs.map (·.1)).map keyD) (M ++ [.dct []]) with
        | ok _ _ => rw [q] at z; cases z
        | err => rw [q] at z; cases z
        | exc c2 f2 M2 => exact dcGo_ne _ _ _ q) h) hD
    · exact .inr ⟨.ref d, h1, d, o, rfl, .inl ⟨kvs, hd, fun Dl hD => dc_go hj Rl E (wk_keys (M := M) hd) h hD⟩⟩
  · exact h.elim
theorem c_setDcK {i : Nat} {y : Str} {py spos : Pos} (hc : X.calm = true) (hN : X.N.Nodup) (ok : BlkOk X.N X.env.scope scope own) (hj : ∀ j ∈ js, j ∈ own.map (·.2))
    (hg : ∀ (s : Shared) (H : Hp) (C : Addr) (cl : List (Str × Addr)) (fp : List Addr), SG (X.blk s H scope (compEnvC scope cl C X.env) fp) tg js g)
    (ht : ∀ (s : Shared) (H : Hp) (C : Addr) (cl : List (Str × Addr)) (fp : List Addr), SPt (X.blk s H scope (compEnvC scope cl C X.env) fp) W0 ifs mt)
    (hk : ∀ (s : Shared) (H : Hp) (C : Addr) (cl : List (Str × Addr)) (fp : List Addr), SE (X.blk s H scope (compEnvC scope cl C X.env) fp) W0 kx mk)
    (hv : ∀ (s : Shared) (H : Hp) (C : Addr) (cl : List (Str × Addr)) (fp : List Addr), SE (X.blk s H scope (compEnvC scope cl C X.env) fp) W0 vx mv)
    (hsw : swapsWith (.DictComp kx vx [⟨tg, .Name x0 p0, ifs, 0⟩] scope pos) (some (.Name y py)) spos.line X.env = pure true) (hy : X.N[i]? = some y := by rfl) (hyl : X.env.scope.names.lookup y = some .local := by rfl)
    (hN0 : X.N[i0]? = some x0 := by rfl) (hv0 : Vis X.env.scope x0 := by first | exact Or.inl rfl | exact Or.inr (Or.inl rfl) | exact Or.inr (Or.inr rfl)) (hd0 : (x0 == ("__debug__" : Str)) = false := by decide) (hcd0 : (x0 == ("__classdict__" : Str)) = false := by decide)
    (hs : ∀ x, foldedSetIterable (.Name x0 p0) X.env x = pure x := by intro _; rfl) :
    SS X W (.Assign [.Name y py] (.DictComp kx vx [⟨tg, .Name x0 p0, ifs, 0⟩] scope pos) spos) (cAsg (mDc (mKeys i0) g mt mk mv (own.map (·.2))) (gNam i)) := by
  have base := ps_setDc (i := i) (gt := gW X.K js g) (tt := tm X.K DnB W0 mt) (tk := tm X.K (DnD X.K) W0 mk) (tv := tm X.K (DnD X.K) W0 mv) hc hN hy hyl hsw (pi_keys (pe_var hN0 hv0 hd0 hcd0)) ok (fun s H C cl fp => gW_of (hg s H C cl fp)) (fun s H C cl fp => ht s H C cl fp) (fun s H C cl fp => hk s H C cl fp) (fun s H C cl fp => hv s H C cl fp) hs
  refine ⟨fun pins s σ H En I q => ?_⟩
  obtain ⟨ρ, M, env, Rl, E, q⟩ := q
  have q2 : tm X.K (DnD X.K) W (mDc (mKeys i0) g mt mk mv (own.map (·.2))) σ H (fun v H1 => gName i v σ H1 En.nx) :=
    andS_tm Rl E q fun d M1 ρ1 H1 v R1 E1 dv q1 => q1 ρ1 H1 _ (Stp.refl (K := X.K) (M := M1)) R1 (E1.set i dv)
  rcases keys_reading hj q2 with ⟨d, kvs, hd, w⟩ | w
  · refine (ps_lock base).run pins s σ H En I ⟨d, .dK kvs, hd, True.intro, fun od => ?_⟩
    exact w od
  · exact base.run pins s σ H En I w
end
end Mi

end

section
/-! Mi, part 29: a def that is told no cell and tells none goes on by itself: it may be reckoned with no cells at all. -/
namespace Mi
open PySem PySem.Spec PyProof.Rows L2
mutual
/-- no cell in it; with b false no dict either -/
def cln (b : Bool) : D → Bool
  | .non => true
  | .bl _ => true
  | .int _ => true
  | .str _ => true
  | .ty _ => true
  | .adr _ => true
  | .ref _ => false
  | .tup ds => clns b ds
  | .lst ds => clns b ds
  | .dct _ ds => b && clns b ds
  | .fn _ => true
  | .exo _ _ _ _ => false
def clns (b : Bool) : List D → Bool
  | [] => true
  | d :: ds => cln b d && clns b ds
end
section
variable {K : PySem.W.Frag} {ρ ρ' : Rho} {H : Hp} {b : Bool}
mutual
theorem Den.to (f : ∀ (a : Addr) (xs : List V), LsV K ρ H a xs → LsV K ρ' H a xs) (g : b = true → ρ'.c = []) : ∀ (d : D) (v : V), cln b d = true → Den K ρ H d v → Den K ρ' H d v
  | .non, v, c, h => by unfold Den at h ⊢; exact h
  | .bl b, v, c, h => by unfold Den at h ⊢; exact h
  | .int i, v, c, h => by unfold Den at h ⊢; exact h
  | .str x, v, c, h => by unfold Den at h ⊢; exact h
  | .ty n, v, c, h => by unfold Den at h ⊢; exact h
  | .adr a, v, c, h => by unfold Den at h ⊢; exact h
  | .ref l, v, c, h => by unfold cln at c; cases c
  | .tup ds, v, c, h => by
    unfold Den at h ⊢
    unfold cln at c
    obtain ⟨a, xs, e, h1, h2⟩ := h
    exact ⟨a, xs, e, h1, Dens.to f g ds xs c h2⟩
  | .lst ds, v, c, h => by
    unfold Den at h ⊢
    unfold cln at c
    obtain ⟨a, xs, e, h1, h2⟩ := h
    exact ⟨a, xs, e, f a xs h1, Dens.to f g ds xs c h2⟩
  | .dct ks ds, v, c, h => by
    unfold Den at h ⊢
    unfold cln at c
    rw [Bool.and_eq_true] at c
    obtain ⟨a, kvs, e, h1, n, h2, h3⟩ := h
    exact ⟨a, kvs, e, h1, by rw [g c.1]; simp, h2, Dens.to f g ds _ c.2 h3⟩
  | .fn n, v, c, h => by unfold Den at h ⊢; exact h
  | .exo _ _ _ _, v, c, h => by unfold cln at c; cases c
theorem Dens.to (f : ∀ (a : Addr) (xs : List V), LsV K ρ H a xs → LsV K ρ' H a xs) (g : b = true → ρ'.c = []) : ∀ (ds : List D) (vs : List V), clns b ds = true → Dens K ρ H ds vs → Dens K ρ' H ds vs
  | [], vs, c, h => by unfold Dens at h ⊢; exact h
  | d :: ds, vs, c, h => by
    unfold Dens at h ⊢
    unfold clns at c
    rw [Bool.and_eq_true] at c
    obtain ⟨v, r, e, h1, h2⟩ := h
    exact ⟨v, r, e, Den.to f g d v c.1 h1, Dens.to f g ds r c.2 h2⟩
end
end
def clnX : Option (List (Str × D)) → Bool
  | none => true
  | some fs => clns false (fs.map (·.2))
/-- the def reckoned with no cells -/
def frM (m : MF) : MF := fun ds M => if clns true ds = true then match m ds [] with
    | .ok d _ => if cln false d = true then .ok d M else .err
    | .exc c fs _ => if clnX fs = true then .exc c fs M else .err
    | .err => .err
  else .err
open Classical in
noncomputable def lists (ρ : Rho) (H : Hp) : List Addr := ρ.c.filterMap fun o => match o with
  | some a => if ∃ xs, H a = some (.lst xs) then some a else none
  | none => none
theorem lists_mem {ρ : Rho} {H : Hp} {a : Addr} : a ∈ lists ρ H ↔ some a ∈ ρ.c ∧ ∃ xs, H a = some (.lst xs) := by
  unfold lists
  rw [List.mem_filterMap]
  constructor
  · rintro ⟨o, ho, h⟩
    cases o with
    | none => cases h
    | some c =>
      simp only at h
      split at h
      · rename_i q
        cases h
        exact ⟨ho, q⟩
      · cases h
  · rintro ⟨h1, h2⟩
    exact ⟨some a, h1, by simp only; rw [if_pos h2]⟩
/-- no cells: the lists that were cells are out of sight -/
noncomputable def Rho.bare (ρ : Rho) (H : Hp) : Rho := ⟨[], ρ.h ++ lists ρ H⟩
section
variable {K : PySem.W.Frag} {ρ ρ1 : Rho} {M M1 : MH} {H H1 : Hp}
theorem Rel.bare (R : Rel K ρ M H) : Rel K (ρ.bare H) [] H where
  len := rfl
  hid := fun a m => by
    refine ⟨by show some a ∉ ([] : List (Option Addr)); simp, ?_⟩
    rcases List.mem_append.mp (show a ∈ ρ.h ++ lists ρ H from m) with m | m
    · exact (R.hid a m).2
    · exact (lists_mem.mp m).2
  inj := fun i j a h _ => by
    have h : ([] : List (Option Addr))[i]? = some (some a) := h
    simp at h
  obj := fun l o h => by simp at h
theorem stp_bare (S : Stp (ρ.bare H) H ρ1 H1) : Stp ρ H ρ H1 := ⟨fun _ _ h => .inl h, fun _ h => .inl h, fun a o h _ => S.keep a o h (by show some a ∉ ([] : List (Option Addr)); simp), rfl⟩
theorem all_kept (S : Stp (ρ.bare H) H ρ1 H1) {a : Addr} {o : HO} (h : H a = some o) : H1 a = some o := S.keep a o h (by show some a ∉ ([] : List (Option Addr)); simp)
theorem Rel.out (R : Rel K ρ M H) (S : Stp (ρ.bare H) H ρ1 H1) : Rel K ρ M H1 where
  len := R.len
  hid := fun a m => let ⟨n, xs, e⟩ := R.hid a m; ⟨n, xs, all_kept S e⟩
  inj := R.inj
  obj := fun l o q => by
    have x := R.obj l o q
    cases o with
    | lst ds =>
      obtain ⟨a, xs, h1, h2, h3⟩ := x
      exact ⟨a, xs, h1, all_kept S h2, Dens.step R (stp_bare S) _ _ h3⟩
    | dct kvs =>
      obtain ⟨a, xs, h1, h2, h3⟩ := x
      exact ⟨a, xs, h1, all_kept S h2, DenP.step R (stp_bare S) h3⟩
    | ins C fs =>
      obtain ⟨a, Ca, dx, gs, h1, cn, h2, h3⟩ := x
      exact ⟨a, Ca, dx, gs, h1, cn, all_kept S h2, DenP.step R (stp_bare S) h3⟩
    | gone => exact x
theorem ls_in {a : Addr} {xs : List V} (h : LsV K ρ H a xs) : LsV K (ρ.bare H) H a xs := by
  rcases h with ⟨h, n, m⟩ | h
  · refine .inl ⟨h, by show some a ∉ ([] : List (Option Addr)); simp, fun z => ?_⟩
    rcases List.mem_append.mp (show a ∈ ρ.h ++ lists ρ H from z) with z | z
    · exact m z
    · exact n (lists_mem.mp z).1
  · exact .inr h
theorem ls_out (R : Rel K ρ M H) (S : Stp (ρ.bare H) H ρ1 H1) {a : Addr} {xs : List V} (h : LsV K ρ1 H1 a xs) : LsV K ρ H1 a xs := by
  rcases h with ⟨h, n, m⟩ | h
  · have m : a ∉ ρ.h ++ lists ρ H := by
      have e : ρ1.h = ρ.h ++ lists ρ H := S.hid
      rw [← e]
      exact m
    rw [List.mem_append, not_or] at m
    refine .inl ⟨h, fun z => ?_, m.1⟩
    rcases R.kind z with ⟨ys, e⟩ | ⟨ks, e⟩ | ⟨C, dx, gs, e⟩
    · exact m.2 (lists_mem.mpr ⟨z, ys, e⟩)
    · have e1 := all_kept S e
      rcases h with h | ⟨o, h⟩ <;> (rw [e1] at h; cases h)
    · have e1 := all_kept S e
      rcases h with h | ⟨o, h⟩ <;> (rw [e1] at h; cases h)
  · exact .inr h
theorem denP_to {κ : Type} {ρ' : Rho} {ps : List (κ × D)} {qs : List (κ × V)} (f : ∀ (a : Addr) (xs : List V), LsV K ρ H a xs → LsV K ρ' H a xs) (c : clns false (ps.map (·.2)) = true) (h : DenP K ρ H ps qs) : DenP K ρ' H ps qs := by
  induction h with
  | nil => exact .nil
  | cons r _ ih =>
    rw [List.map_cons] at c
    unfold clns at c
    rw [Bool.and_eq_true] at c
    exact .cons ⟨r.1, Den.to (b := false) f (fun z => nomatch z) _ _ c.1 r.2⟩ (ih c.2)
end
theorem sp_fr {K : PySem.W.Frag} {n : Nat} {m : MF} {vs : List V} {H : Hp} {Q : VK} {E : XK} (h : spM K n (frM m) vs H Q E) : spM K n m vs H Q E := by
  obtain ⟨hl, ρ, M, ds, R, dd, ok⟩ := h
  refine ⟨hl, ρ.bare H, [], ds, R.bare, ?_⟩
  unfold frM at ok
  split at ok
  rotate_left
  · exact ok.elim
  rename_i c
  refine ⟨Dens.to (fun _ _ => ls_in) (fun _ => rfl) _ _ c dd, ?_⟩
  cases e : m ds [] with
  | err => rw [e] at ok; exact ok
  | ok d M1 =>
    rw [e] at ok
    simp only at ok
    split at ok
    · rename_i cd
      exact fun ρ1 H1 v S R1 dv => ok ρ H1 v (stp_bare S) (R.out S) (Den.to (b := false) (fun _ _ => ls_out R S) (fun z => nomatch z) _ _ cd dv)
    · exact ok.elim
  | exc cc fs M1 =>
    rw [e] at ok
    simp only at ok
    split at ok
    · rename_i cf
      intro ρ1 H1 d cv cn S R1 x
      refine ok ρ H1 d cv cn (stp_bare S) (R.out S) ?_
      cases fs with
      | none => exact x
      | some fs =>
        obtain ⟨a, gs, h1, h2, h3⟩ := x
        exact ⟨a, gs, h1, h2, denP_to (fun _ _ => ls_out R S) cf h3⟩
    · exact ok.elim
theorem fm_fr {P : Program} {w : World} {K : PySem.W.Frag} {mg : Str → Option Value} {base : Heap} {k : Nat} {x : Str} {st : Stmt} {dvs : List V} {kws : List (Str × V)} {ps : List Str} {m : MF} (F : Fm P w K mg base k x st dvs kws ps m) : Fm P w K mg base k x st dvs kws ps (frM m) :=
  let ⟨f, fd, a, b, c⟩ := F.ex
  ⟨f, fd, a, b, ⟨fun vs H Q E h => h.1, fun A outer s H args us vs Q E r g e bt r2 h => c.go A outer s H args us vs Q E r g e bt r2 (sp_fr h)⟩⟩
end Mi

end

section
/-! Mi, part 30: things of the text's own classes: made, their fields read and stored, their methods. -/
namespace Mi
open PySem PySem.Spec PyProof.Rows L2
/-- the own classes, their fields -/
def COk (K : PySem.W.Frag) (T : ATab) : Prop := ∀ p ∈ T, ∃ C, PySem.W.nsIn K mainGlobals p.1 = some (some (.ref C)) ∧ Cls K C ∧ ∀ f ∈ p.2, NoAttr K C f
theorem hasA_in {K : PySem.W.Frag} {T : ATab} (ok : COk K T) {c f : Str} {Ca : Addr} (cn : CN K c (.ref Ca)) (h : hasA T c f = true) : Cls K Ca ∧ NoAttr K Ca f := by
  unfold hasA at h
  obtain ⟨p, h1, h2⟩ := List.any_eq_true.mp h
  rw [Bool.and_eq_true, decide_eq_true_eq] at h2
  obtain ⟨e, h3⟩ := h2
  obtain ⟨g, h4, h5⟩ := List.any_eq_true.mp h3
  rw [decide_eq_true_eq] at h5
  subst h5
  obtain ⟨C, n, x, q⟩ := ok p h1
  subst e
  have z := cn_ref n cn
  cases z
  exact ⟨x, q g h4⟩
theorem denP_look {K : PySem.W.Frag} {ρ : Rho} {H : Hp} {f : Str} {fs : List (Str × D)} {gs : List (Str × V)} (h : DenP K ρ H fs gs) : (∀ d, fs.lookup f = some d → ∃ v, gs.lookup f = some v ∧ Den K ρ H d v) ∧ (fs.lookup f = none → gs.lookup f = none) := by
  induction h with
  | nil => exact ⟨fun d e => by simp at e, fun _ => rfl⟩
  | @cons p q ps qs r _ ih =>
    obtain ⟨k, d0⟩ := p
    obtain ⟨k', v0⟩ := q
    obtain ⟨e, dv⟩ := r
    simp only at e dv
    subst e
    simp only [List.lookup_cons]
    cases z : f == k with
    | true => exact ⟨fun d e => ⟨v0, rfl, by cases e; exact dv⟩, fun e => by cases e⟩
    | false => exact ih
def putFD (f : Str) (v : D) : List (Str × D) → List (Str × D)
  | [] => [(f, v)]
  | (g, x) :: r => if g = f then (g, v) :: r else (g, x) :: putFD f v r
theorem denP_putF {K : PySem.W.Frag} {ρ : Rho} {H : Hp} {f : Str} {d : D} {v : V} (dv : Den K ρ H d v) {fs : List (Str × D)} {gs : List (Str × V)} (h : DenP K ρ H fs gs) : DenP K ρ H (putFD f d fs) (putF f v gs) := by
  induction h with
  | nil => exact .cons ⟨rfl, dv⟩ .nil
  | @cons p q ps qs r rs ih =>
    obtain ⟨k, d0⟩ := p
    obtain ⟨k', v0⟩ := q
    obtain ⟨e, dv0⟩ := r
    simp only at e dv0
    subst e
    show DenP K ρ H (if k = f then (k, d) :: ps else (k, d0) :: putFD f d ps) (if k = f then (k, v) :: qs else (k, v0) :: putF f v qs)
    by_cases z : k = f
    · rw [if_pos z, if_pos z]
      exact .cons ⟨rfl, dv⟩ rs
    · rw [if_neg z, if_neg z]
      exact .cons ⟨rfl, dv0⟩ ih
/-! ### x.f -/
def fldD (T : ATab) (f : Str) : Op1 := fun d M => match d with
  | .ref l => match M[l]? with
    | some (.ins c fs) => if hasA T c f = true then match fs.lookup f with
        | some d => .ok d M
        | none => .err
      else .err
    | _ => .err
  | _ => .err
section
variable {X : Cx} {W : WX} {T : ATab}
theorem s_fld (ok : COk X.K T) {e : Expr} {pos : Pos} {n : Str} {m : ME} (he : SE X W e m) (hb : attributeBase e n X.env (eval e X.env) = eval e X.env := by rfl) : SE X W (.Attribute e n pos) (m1 (fldD T n) m) := by
  refine pe_imp (pe_fld he hb) fun σ H Q h => ?_
  refine tm_bind (f := fun d env M1 => fldD T n d M1) h fun d M1 ρ1 H1 v env R1 E1 dv h => ?_
  unfold fldD at h
  split at h
  · rename_i l
    split at h
    · rename_i c fs hm
      split at h
      · rename_i hA
        split at h
        · rename_i d e
          obtain ⟨p, u, rfl, hl, ho⟩ := den_ref.mp dv
          obtain ⟨a, Ca, dx, gs, h1, cn, h2, h3⟩ := R1.obj l _ hm
          rw [hl] at h1
          cases h1
          have ep := ho a rfl
          subst ep
          obtain ⟨c1, n1⟩ := hasA_in ok cn hA
          obtain ⟨v, l1, dv⟩ := (denP_look h3).1 d e
          exact ⟨a, Ca, dx, gs, v, rfl, h2, c1, n1, l1, here R1 h dv⟩
        · exact h.elim
      · exact h.elim
    · exact h.elim
  · exact h.elim
/-! ### x.f = e -/
def setFD (T : ATab) (f : Str) (o d : D) (M : MH) : Option MH := match o with
  | .ref l => match M[l]? with
    | some (.ins c fs) => if hasA T c f = true ∧ fs.length < 1000 then some (M.set l (.ins c (putFD f d fs))) else none
    | _ => none
  | _ => none
def cFld (T : ATab) (f : Str) (mv mo : ME) : MS := fun env M => andS (mv env M) env fun d M1 => andS (mo env M1) env fun o M2 => match setFD T f o d M2 with
  | some M3 => .nx env M3
  | none => .err
theorem o_setF {K : PySem.W.Frag} {ρ : Rho} {M M' : MH} {H : Hp} {f : Str} {o d : D} {vo vd : V} (ok : COk K T) (Rl : Rel K ρ M H) (d1 : Den K ρ H o vo) (d2 : Den K ρ H d vd) (e : setFD T f o d M = some M') :
    ∃ a C dx fs, vo = .ref a ∧ H a = some (.ins C dx fs) ∧ Cls K C ∧ NoAttr K C f ∧ fs.length < 1000 ∧ ∃ ρ', Stp ρ H ρ' (upd H a (.ins C dx (putF f vd fs))) ∧ Rel K ρ' M' (upd H a (.ins C dx (putF f vd fs))) := by
  unfold setFD at e
  split at e
  · rename_i l
    split at e
    · rename_i c fs hm
      split at e
      · rename_i hA
        cases e
        obtain ⟨p, u, rfl, hl, ho⟩ := den_ref.mp d1
        obtain ⟨a, Ca, dx, gs, h1, cn, h2, h3⟩ := Rl.obj l _ hm
        have hl2 := h1
        rw [hl] at h1
        cases h1
        have ep := ho a rfl
        subst ep
        obtain ⟨c1, n1⟩ := hasA_in ok cn hA.1
        have S : Stp ρ H ρ (upd H a (.ins Ca dx (putF f vd gs))) := Stp.write hl2
        exact ⟨a, Ca, dx, gs, rfl, h2, c1, n1, by rw [← Paired.length h3]; exact hA.2, ρ, S, Rl.write hl2 ⟨a, Ca, dx, putF f vd gs, hl2, cn, upd_same, DenP.step Rl S (denP_putF d2 h3)⟩⟩
      · cases e
    · cases e
  · cases e
theorem c_fld (ok : COk X.K T) {o e : Expr} {f : Str} {p' pos : Pos} {mo mv : ME} (hv : SE X W e mv) (ho : SE X W o mo) (hs : swapsWith e (some (.Attribute o f p')) pos.line X.env = pure false := by rfl) : SS X W (.Assign [.Attribute o f p'] e pos) (cFld T f mv mo) := by
  refine ps_imp (ps_fld ho hv hs) fun D σ H q => ?_
  obtain ⟨ρ, M, env, Rl, E, q⟩ := q
  refine andS_stp Rl E q fun d M1 ρ1 H1 v S1 R1 E1 dv q1 => ?_
  refine andS_stp R1 E1 q1 fun o M2 ρ2 H2 w S2 R2 E2 dw q2 => ?_
  split at q2
  · rename_i M3 e
    obtain ⟨a, C, dx, fs, rfl, h2, c1, n1, hl, ρ', S, R'⟩ := o_setF ok R2 dw (Den.step R1 S2 _ _ dv) e
    exact ⟨a, C, dx, fs, rfl, h2, c1, n1, hl, q2 ρ' _ σ S R' (E2.step R2 S)⟩
  · exact q2.elim
/-! ### x.f += e, whole numbers -/
def clsAt (o : D) (M : MH) : Option Str := match o with
  | .ref l => match M[l]? with
    | some (.ins c _) => some c
    | _ => none
  | _ => none
def cFldAdd (T : ATab) (f : Str) (mo mv : ME) : MS := fun env M => andS (mo env M) env fun o M1 => andS (fldD T f o M1) env fun x M2 => andS (mv env M2) env fun y M3 => match x, y with
  | .int i, .int j => if clsAt o M2 = clsAt o M3 then match setFD T f o (.int (i + j)) M3 with
      | some M4 => .nx env M4
      | none => .err
    else .err
  | _, _ => .err
theorem fld_at {K : PySem.W.Frag} {ρ : Rho} {M M2 : MH} {H : Hp} {f : Str} {o x : D} {vo : V} (ok : COk K T) (Rl : Rel K ρ M H) (d1 : Den K ρ H o vo) (e : fldD T f o M = .ok x M2) : M2 = M ∧ ∃ l c fs a C dx gs v, o = .ref l ∧ M[l]? = some (.ins c fs) ∧ vo = .ref a ∧ CN K c (.ref C) ∧ H a = some (.ins C dx gs) ∧ Cls K C ∧ NoAttr K C f ∧ gs.lookup f = some v ∧ Den K ρ H x v := by
  unfold fldD at e
  split at e
  · rename_i l
    split at e
    · rename_i c fs hm
      split at e
      · rename_i hA
        split at e
        · rename_i d e1
          cases e
          obtain ⟨p, u, rfl, hl, ho⟩ := den_ref.mp d1
          obtain ⟨a, Ca, dx, gs, h1, cn, h2, h3⟩ := Rl.obj l _ hm
          rw [hl] at h1
          cases h1
          have ep := ho a rfl
          subst ep
          obtain ⟨c1, n1⟩ := hasA_in ok cn hA
          obtain ⟨v, l1, dv⟩ := (denP_look h3).1 x e1
          exact ⟨rfl, l, c, fs, a, Ca, dx, gs, v, rfl, hm, rfl, cn, h2, c1, n1, l1, dv⟩
        · cases e
      · cases e
    · cases e
  · cases e
theorem fld_ne {M M2 : MH} {f c : Str} {o : D} {fs : Option (List (Str × D))} : fldD T f o M ≠ .exc c fs M2 := by
  intro e
  unfold fldD at e
  (repeat' split at e) <;> cases e
theorem c_fldAdd (ok : COk X.K T) {o e : Expr} {f : Str} {tpos pos : Pos} {mo mv : ME} (ho : SE X W o mo) (hv : SE X W e mv) : SS X W (.AugAssign (.Attribute o f tpos) .Add e pos) (cFldAdd T f mo mv) := by
  refine ps_imp (ps_fldaug ho hv in_add) fun D σ H q => ?_
  obtain ⟨ρ, M, env, Rl, E, q⟩ := q
  refine andS_stp Rl E q fun o M1 ρ1 H1 w S1 R1 E1 dw q1 => ?_
  cases ef : fldD T f o M1 with
  | err => rw [ef] at q1; exact q1.elim
  | exc c fs M2 => exact absurd ef fld_ne
  | ok x M2 =>
    rw [ef] at q1
    obtain ⟨rfl, l, c, fs, a, C, dx, gs, v, rfl, hm, rfl, cn, h2, c1, n1, l1, dv⟩ := fld_at ok R1 dw ef
    refine ⟨a, C, dx, gs, v, rfl, h2, c1, n1, l1, ?_⟩
    refine andS_stp R1 E1 q1 fun y M3 ρ2 H2 u S2 R2 E2 du q2 => ?_
    split at q2
    rotate_left
    · exact q2.elim
    · rename_i i j
      split at q2
      rotate_left
      · exact q2.elim
      rename_i hc
      split at q2
      rotate_left
      · exact q2.elim
      · rename_i M4 e
        obtain ⟨a', C', dx', fs', e1, h3, c2, n2, hl, ρ', S, R'⟩ := o_setF ok R2 (Den.step R1 S2 _ _ dw) (den_int.mpr rfl) e
        cases e1
        have hC : C' = C := by
          unfold setFD at e
          simp only at e
          split at e
          · rename_i c2 fs2 hm2
            have hc2 : c2 = c := by
              unfold clsAt at hc
              simp only [hm, hm2] at hc
              exact (Option.some.inj hc).symm
            subst hc2
            obtain ⟨a2, Ca2, dx2, gs2, k1, cn2, k2, _⟩ := R2.obj l _ hm2
            obtain ⟨p, u2, e5, hl5, ho5⟩ := den_ref.mp (Den.step R1 S2 _ _ dw)
            cases e5
            rw [hl5] at k1
            cases k1
            have := ho5 a2 rfl
            subst this
            rw [h3] at k2
            cases k2
            exact V.ref.inj (by have := CN.uniq cn cn2; cases this; rfl)
          · cases e
        subst hC
        have dv := den_int.mp dv
        have du := den_int.mp du
        subst dv du
        exact ⟨i, j, rfl, rfl, dx', fs', h3, hl, q2 ρ' _ σ S R' (E2.step R2 S)⟩
end
end Mi

end

section
/-! Mi, part 31: methods of the text's own classes called, things of them made. -/
namespace Mi
open PySem PySem.Spec PyProof.Rows L2
structure OwnC (K : PySem.W.Frag) (mg : Str → Option Value) (cls : Str) (C : Addr) : Prop where
  nm : PySem.W.nsIn K mainGlobals cls = some (some (.ref C))
  gl : mg cls = some (.ref C)
  cl : Cls K C
/-- where a method of the text stands -/
def AtM (K : PySem.W.Frag) (mg : Str → Option Value) (cls m qual : Str) (st : Stmt) : Prop := ∃ C f fd, OwnC K mg cls C ∧ PySem.W.findIn K (.ref C) m = some (some (.ref f)) ∧ PySem.W.isFn K (.ref f) = true ∧ FunD K m qual (defArgs st) (defBody st) (defScope st) [] [] f fd
structure Fmt (P : Program) (w : World) (K : PySem.W.Frag) (mg : Str → Option Value) (base : Heap) (k : Nat) (cls m qual : Str) (st : Stmt) (ps : List Str) (mf : MF) : Prop where
  ex : ∃ C f fd, OwnC K mg cls C ∧ PySem.W.findIn K (.ref C) m = some (some (.ref f)) ∧ PySem.W.isFn K (.ref f) = true ∧ FunD K m qual (defArgs st) (defBody st) (defScope st) [] [] f fd ∧ FnG P w K mg base k f fd ps (spM K ps.length mf)
theorem Fmt.mono {P : Program} {w : World} {K : PySem.W.Frag} {mg : Str → Option Value} {base : Heap} {j k : Nat} {cls m qual : Str} {st : Stmt} {ps : List Str} {mf : MF} (F : Fmt P w K mg base j cls m qual st ps mf) (h : j ≤ k) : Fmt P w K mg base k cls m qual st ps mf :=
  let ⟨C, f, fd, a, b, c, d, e⟩ := F.ex; ⟨C, f, fd, a, b, c, d, e.mono h⟩
theorem mt_seal {P : Program} {w : World} {K : PySem.W.Frag} {mg : Str → Option Value} {base : Heap} {k : Nat} {cls m qual : Str} {st : Stmt} {ps : List Str} {mf mf' : MF} (e : mf = mf') (F : Fmt P w K mg base k cls m qual st ps mf') : Fmt P w K mg base k cls m qual st ps mf := by
  rw [e]
  exact F
theorem mt_mk {P : Program} {w : World} {K : PySem.W.Frag} {mg : Str → Option Value} {base : Heap} {k : Nat} {cls m x : Str} {st : Stmt} {ps : List Str} {b : MS} {n : Nat} (N : List Str) (a : AtM K mg cls m x st) (S : FnScope N ps (defScope st)) (hn : N.length = n)
    (body : ∀ (f : Addr) (cdv : Value) (A : Around) (outer : List Env) (s : Shared) (H : Hp) (E : XK), Cg (cxOf (L2.CX P w) P w K mg base N x (defScope st) f cdv A outer s H E) (WE E) k →
      PassesOwn (model P w) (cxOf (L2.CX P w) P w K mg base N x (defScope st) f cdv A outer s H E).A (cxOf (L2.CX P w) P w K mg base N x (defScope st) f cdv A outer s H E).env (cxOf (L2.CX P w) P w K mg base N x (defScope st) f cdv A outer s H E).xe →
      SB (cxOf (L2.CX P w) P w K mg base N x (defScope st) f cdv A outer s H E) (WE E) (defBody st) b) : Fmt P w K mg base (k + 1) cls m x st ps (mFn n b) := by
  obtain ⟨C, f, fd, h1, h2, h3, F⟩ := a
  refine ⟨C, f, fd, h1, h2, h3, F, fng_of F S (fun vs H Q E h => h.1) fun cdv A outer s H vs Q E rm gd h => ?_⟩
  obtain ⟨hl, ρ, M, ds, Rl, dd, ok⟩ := h
  have hb := body f cdv A outer s H E ⟨rm, gd, takes_of rfl rfl rfl rfl⟩ (passes_of rfl)
  refine ⟨_, hb, ρ, M, ds.map some ++ List.replicate (n - ds.length) none, Rl, by rw [← hn]; exact en_start dd, ?_⟩
  unfold mFn at ok
  cases e : b (ds.map some ++ List.replicate (n - ds.length) none) M with
  | nx env M1 =>
    rw [e] at ok
    exact fun ρ1 H1 σ1 S1 R1 E1 => ok ρ1 H1 .non S1 R1 (den_non.mpr rfl)
  | ret d M1 => rw [e] at ok; exact ok
  | bk env M1 => rw [e] at ok; exact ok.elim
  | ct env M1 => rw [e] at ok; exact ok.elim
  | exc c fs env M1 =>
    rw [e] at ok
    exact fun ρ1 H1 d σ1 cv cn S1 R1 x1 _ => ok ρ1 H1 d cv cn S1 R1 x1
  | err => rw [e] at ok; exact ok.elim
/-- every parameter is given -/
theorem binds_d {K : PySem.W.Frag} {x qual : Str} {params : Arguments} {body : List Stmt} {scope : Scope} {kws : List (Str × V)} {f : Addr} {fd : FuncData} {ps : List Str} (F : FunD K x qual params body scope [] kws f fd)
    (h : ∀ (kV doc pm : Value) (an : Option Addr) (cdv ct : Value) (us : List Value), us.length = ps.length → bindArgs (PySem.W.fnOf x qual params body scope .none kV doc pm an cdv ct) ⟨us, []⟩ = pure (ps.zip us)) : Binds K fd ps [] := by
  obtain ⟨oc, od, dV, kV, doc, pm, an, cdv, ct, osl, rfl, lk, hcd, hD, hK⟩ := F.ex
  rcases hD with ⟨_, rfl⟩ | ⟨e, _⟩
  · exact .all fun us hl => h kV doc pm an cdv ct us hl
  · exact absurd rfl e
/-! ### x.m(..) -/
def instOf (cls mn : Str) (x : D) (M : MH) : Bool := match x with
  | .ref l => match M[l]? with
    | some (.ins c fs) => decide (c = cls) && (fs.lookup mn).isNone
    | _ => false
  | _ => false
theorem instOf_ok {K : PySem.W.Frag} {ρ : Rho} {M : MH} {H : Hp} {cls mn : Str} {x : D} {v : V} {C : Addr} (R : Rel K ρ M H) (n : PySem.W.nsIn K mainGlobals cls = some (some (.ref C))) (dx : Den K ρ H x v) (h : instOf cls mn x M = true) : ∃ a dx gs, v = .ref a ∧ H a = some (.ins C dx gs) ∧ gs.lookup mn = none := by
  unfold instOf at h
  split at h
  · rename_i l
    split at h
    · rename_i c fs hm
      rw [Bool.and_eq_true, decide_eq_true_eq] at h
      obtain ⟨rfl, h2⟩ := h
      obtain ⟨p, u, rfl, hl, ho⟩ := den_ref.mp dx
      obtain ⟨a, Ca, dxx, gs, k1, cn, k2, k3⟩ := R.obj l _ hm
      rw [hl] at k1
      cases k1
      have ep := ho a rfl
      subst ep
      have z := cn_ref n cn
      cases z
      exact ⟨a, dxx, gs, rfl, k2, (denP_look k3).2 (Option.isNone_iff_eq_none.mp h2)⟩
    · cases h
  · cases h
def mMeth (cls mn : Str) (mf : MF) (n : Nat) (mo : ME) (ma : MA) : ME := fun env M => (mo env M).bind fun x M1 => if instOf cls mn x M1 = true then (ma env M1).bind fun us M2 => if us.length = n then mf (x :: us) M2 else .err else .err
section
variable {X : Cx} {W : WX} {k j n : Nat} {cls mn qual : Str} {st : Stmt} {ps : List Str} {mf : MF} {o e : Expr} {es : List Expr} {mo : ME} {ma : MA} {apos pos p : Pos} {x : Str}
theorem s_meth {pl : Sem Bool} (F : Fmt X.prog X.w X.K X.mg X.base j cls mn qual st ps mf) (c : Cg X W k) (hj : j ≤ k) (hps : ps.length = n + 1) (bd : ∀ f fd, FunD X.K mn qual (defArgs st) (defBody st) (defScope st) [] [] f fd → Binds X.K fd ps [])
    (ho : SE X W o mo) (ha : SA X W (e :: es) ma)
    (hst : starEach (e :: es) X.env = (false, eval e X.env) :: starEach es X.env := by rfl) (hpl : (backTo pos (starEach es X.env)).any (·.1) = false := by rfl)
    (ht : eval (.Call (.Attribute o mn apos) (e :: es) [] pos) X.env = (do
      let ov ← eval o X.env
      standAt apos.atName
      let (f, first) ← holding [ov] (getMethod ov mn pl)
      callWith pos f first (backTo pos (starEach (e :: es) X.env)) (backToKw pos (keywordEach [] X.env))) := by rfl) :
    SE X W (.Call (.Attribute o mn apos) (e :: es) [] pos) (mMeth cls mn mf n mo ma) := by
  obtain ⟨C, f, fd, oc, fi, fn, FD, G⟩ := F.ex
  refine ⟨fun pins s σ H Q I h => ?_⟩
  refine PySem.W.methodCall_KW (pl := pl) (thn (ho.run pins s σ H (fun v H1 => ∃ a dx gs, v = .ref a ∧ H1 a = some (.ins C dx gs) ∧ gs.lookup mn = none ∧ tm X.K (DnA X.K) W ma σ H1 fun vs H2 => spM X.K ps.length mf (.ref a :: vs) H2 Q (fun c d H' => W c d σ H')) I ?_)
    fun u s1 ⟨v, H1, I1, rv, a, dx, gs, ev, ea, l, q⟩ => ?_) ht
  · refine tm_bind (f := fun x env M1 => if instOf cls mn x M1 = true then (ma env M1).bind fun us M2 => if us.length = n then mf (x :: us) M2 else .err else .err) h fun x M1 ρ1 H1 v env R1 E1 dv h => ?_
    split at h
    rotate_left
    · exact h.elim
    rename_i hi
    obtain ⟨a, dx, gs, rfl, ea, l⟩ := instOf_ok R1 oc.nm dv hi
    refine ⟨a, dx, gs, rfl, ea, l, ρ1, M1, env, R1, E1, h.bind fun us M2 ρ2 H2 vs _ S R2 dd h => ?_⟩
    split at h
    rotate_left
    · exact h.elim
    rename_i hl
    exact ⟨by rw [List.length_cons, ← Dens.length dd, hl, hps], ρ2, M2, x :: us, R2, dens_cons.mpr ⟨_, _, rfl, Den.step R1 S _ _ dv, dd⟩, h⟩
  · subst ev
    obtain rfl : u = Value.ref a := rv
    refine getmeth_ok I1 ea oc.cl ⟨fi, fn, FD.kp⟩ l ?_
    refine PySem.W.callWith_K (first := [.ref a]) (h₀ := X.base) I.ok.mod.kin FD.kp (thn (ha.run pos pins s1 σ H1 _ I1 q) fun us s2 ⟨vs, H2, I2, r, q2⟩ => ⟨I2.kIn, ?_⟩) hst hpl
    have hl : (Value.ref a :: us ++ []).length = ps.length := by
      have e1 := q2.1
      rw [List.append_nil, List.length_cons, ← Paired.length r]
      rw [List.length_cons] at e1
      exact e1
    have bt := bd f fd FD s2 (Value.ref a :: us) I2.kIn hl
    rw [List.append_nil] at bt
    exact run_g (vs := V.ref a :: vs) G (c.rm.mono hj) c.gd c.tk I2 bt (.cons (show RelV (V.ref a) (Value.ref a) from rfl) r) q2
/-! ### C(..) -/
def mMake (cls : Str) (mf : MF) (n : Nat) (ma : MA) : ME := fun env M => (ma env M).bind fun us M1 => if us.length = n then (mf (.ref M1.length :: us) (M1 ++ [.ins cls []])).bind fun d M2 => match d with
    | .non => .ok (.ref M1.length) M2
    | _ => .err
  else .err
theorem run_makeG {f C : Addr} {fd : FuncData} {sp : Sp} {pins : List (Addr × Obj)} {σ : L2.St} {H : Hp} {s : Shared} {Q : VK} {us : List Value} {vs : List V} (M : Mk X.K C f) (F : FnG X.prog X.w X.K X.mg X.base j f fd ps sp) (hr : Room (j + 1) X.A) (gd : X.A.guards = some []) (tk : Takes X W) (hb : Binds X.K fd ps [])
    (I : Inv X pins σ H s) (r : Vals vs us)
    (h : ∀ x dx, H x = none → H dx = none → dx ≠ x → sp (.ref x :: vs) (upd (upd H dx (.own x)) x (.ins C dx [])) (fun v H2 => v = .non ∧ Q (.ref x) H2) (fun c d H' => W c d σ H')) :
    wpAny (model X.prog X.w) X.A (call (.ref C) us) (EP X pins σ Q) X.xe s := by
  have hq := h (s.heap.objs.size + 1) s.heap.objs.size (I.hok.fresh (Nat.le_succ _)) (I.hok.fresh (Nat.le_refl _)) (Nat.ne_of_lt (Nat.lt_succ_self _))
  have I2 := Inv.made (C := C) I
  have r2 : Vals (V.ref (s.heap.objs.size + 1) :: vs) (Value.ref (s.heap.objs.size + 1) :: us) := .cons rfl r
  have hl : (Value.ref (s.heap.objs.size + 1) :: us ++ []).length = ps.length := by
    have e := r2.length
    rw [F.len _ _ _ _ hq] at e
    rw [List.append_nil]
    exact e.symm
  have bt := hb _ (Value.ref (s.heap.objs.size + 1) :: us) I2.kIn hl
  rw [List.append_nil] at bt
  have gu : (X.A.under (.builtin "type.__call__" ⟨.ref C :: us, []⟩)).guards = some [] := by
    simp only [Around.under, Code.guards, Code.isGuard, gd]
    first
      | (rw [if_neg (by decide)]; rfl)
      | rfl
  refine wpAny_call (make_map (f := f) I.kIn M.makes M.init (beq_iff_eq.mp M.fn) (codeAny_mono (F.go _ X.stack _ _ ⟨Value.ref (s.heap.objs.size + 1) :: us, []⟩ (Value.ref (s.heap.objs.size + 1) :: us) _ _ _ (hr.make C us []) gu
    (I2.env0.make C us []) bt r2 hq) fun r s' hq' => ?_))
  cases r with
  | error e => exact tk e s' (XE.of_call I2 (fun _ _ _ z => z) hq')
  | ok fl =>
    cases fl with
    | ret u =>
      obtain ⟨v, H', I3, rv, ev, q3⟩ := I2.after hq'
      subst ev
      exact ⟨rv, ⟨V.ref (s.heap.objs.size + 1), H', I3, rfl, q3⟩⟩
    | next => exact False.elim hq'
    | brk => exact False.elim hq'
    | cont => exact False.elim hq'
theorem s_make (F : Fmt X.prog X.w X.K X.mg X.base j cls "__init__" qual st ps mf) (mk : ∀ C, OwnC X.K X.mg cls C → PySem.W.makesIn X.K C = true ∧ PySem.W.keepIn X.K (.ref C) = true) (c : Cg X W k) (hj : j + 1 ≤ k) (hps : ps.length = n + 1) (bd : ∀ f fd, FunD X.K "__init__" qual (defArgs st) (defBody st) (defScope st) [] [] f fd → Binds X.K fd ps [])
    (ha : SA X W (e :: es) ma) (hg : Gl X cls := by rfl) (hdb : (cls == ("__debug__" : Str)) = false := by decide) (he : starEach (e :: es) X.env = (false, eval e X.env) :: starEach es X.env := by rfl) (hpl : (backTo pos (starEach es X.env)).any (·.1) = false := by rfl) :
    SE X W (.Call (.Name cls p) (e :: es) [] pos) (mMake cls mf n ma) := by
  obtain ⟨C, f, fd, oc, fi, fn, FD, G⟩ := F.ex
  obtain ⟨mk1, mk2⟩ := mk C oc
  refine ⟨fun pins s σ H Q I h => ?_⟩
  refine wpAny_Call_Name_kw (ld_glob I hg oc.gl ?_ hdb)
  refine PySem.W.callWith_K (h₀ := X.base) I.ok.mod.kin mk2 (thn (ha.run pos pins s σ H (fun vs H1 => ∀ x dx, H1 x = none → H1 dx = none → dx ≠ x → spM X.K ps.length mf (.ref x :: vs) (upd (upd H1 dx (.own x)) x (.ins C dx [])) (fun v H2 => v = .non ∧ Q (.ref x) H2) (fun c d H' => W c d σ H')) I ?_)
    fun us s1 ⟨vs, H1, I1, r, q⟩ => ⟨I1.kIn, run_makeG ⟨mk1, fi, fn, mk2⟩ G (c.rm.mono hj) c.gd c.tk (bd f fd FD) I1 r q⟩) he hpl
  refine tm_bind (f := fun us env M1 => if us.length = n then (mf (.ref M1.length :: us) (M1 ++ [.ins cls []])).bind fun d M2 => match d with
      | .non => (R.ok (D.ref M1.length) M2 : R D)
      | _ => .err
    else .err) h fun us M1 ρ1 H1 vs env R1 E1 dd h => ?_
  split at h
  rotate_left
  · exact h.elim
  rename_i hl
  intro x dx hx hdx ne
  have hx2 : (upd H1 dx (.own x)) x = none := by rw [upd_ne (Ne.symm ne)]; exact hx
  have S0 : Stp ρ1 H1 (ρ1.add x) (upd (upd H1 dx (.own x)) x (.ins C dx [])) := (Stp.alloc hdx).trans (Stp.cell hx2)
  have R2 : Rel X.K (ρ1.add x) (M1 ++ [.ins cls []]) (upd (upd H1 dx (.own x)) x (.ins C dx [])) := (R1.alloc hdx).cell hx2 ⟨x, C, dx, [], R1.lastAt, .inl oc.nm, upd_same, .nil⟩
  refine ⟨by rw [List.length_cons, ← Dens.length dd, hl, hps], ρ1.add x, M1 ++ [.ins cls []], D.ref M1.length :: us, R2, dens_cons.mpr ⟨_, _, rfl, den_ref.mpr ⟨x, some x, rfl, R1.lastAt, fun b e => (Option.some.inj e).symm⟩, Dens.step R1 S0 _ _ dd⟩, ?_⟩
  cases e : mf (.ref M1.length :: us) (M1 ++ [.ins cls []]) with
  | err => rw [e] at h; exact h.elim
  | exc cc fs M2 =>
    rw [e] at h
    exact fun ρ' H' d cv cn S R' xr => h ρ' H' d cv cn (S0.trans S) R' xr
  | ok d M2 =>
    rw [e] at h
    simp only [R.bind_ok] at h
    split at h
    · intro ρ' H' v S R' dv
      refine ⟨den_non.mp dv, h ρ' H' (.ref x) (S0.trans S) R' ?_⟩
      rcases S.pre _ _ (R1.lastAt (p := x)) with q | q
      · exact den_ref.mpr ⟨x, some x, rfl, q, fun b e => (Option.some.inj e).symm⟩
      · exact den_ref.mpr ⟨x, none, rfl, q, fun b e => by cases e⟩
    · exact h.elim
end
end Mi

end

section
/-! Mi, part 32: a comprehension's list as a cell. -/
namespace Mi
open PySem PySem.Spec PyProof.Rows L2
section
variable {K : PySem.W.Frag} {ρ ρ1 : Rho} {M : MH} {H H1 : Hp} {p : Addr}
theorem stp_told (S : Stp ρ1 H1 ρ H) (hD : H1 p = none) : Stp ρ1 H1 (ρ.add p) H where
  pre := fun l o h => by
    rcases S.pre l o h with q | q
    · exact .inl (get_front q)
    · exact .inr (get_front q)
  new := fun a h => by
    rcases List.mem_append.mp h with h | h
    · exact S.new a h
    · have e : some a = some p := by simpa using h
      cases e
      exact .inr hD
  keep := S.keep
  hid := S.hid
theorem Tr.told {xs : List V} (hp : H p = some (.lst xs)) : Tr (ρ.hide p) H (ρ.add p) H where
  pre := fun _ _ h => .inl (get_front h)
  lst := fun a ys h n m => by
    refine ⟨h, fun z => ?_, fun z => m (List.mem_cons_of_mem _ z)⟩
    rcases List.mem_append.mp z with z | z
    · exact n z
    · have e : some a = some p := by simpa using z
      cases e
      exact m List.mem_cons_self
  tup := fun _ _ h => h
  dct := fun a ks h n => by
    refine ⟨h, fun z => ?_⟩
    rcases List.mem_append.mp z with z | z
    · exact n z
    · have e : some a = some p := by simpa using z
      cases e
      rcases h with h | ⟨u, h⟩ <;> (rw [hp] at h; cases h)
  ext := fun _ _ h => h
  xd := fun _ _ h => h
theorem Rel.told (R : Rel K (ρ.hide p) M H) {ds : List D} {xs : List V} (hp : H p = some (.lst xs)) (dd : Dens K (ρ.hide p) H ds xs) (n2 : p ∉ ρ.h) : Rel K (ρ.add p) (M ++ [.lst ds]) H where
  len := by
    show (ρ.c ++ [some p]).length = _
    rw [List.length_append, List.length_append, R.unhide.len]; rfl
  hid := fun a m => by
    obtain ⟨n, xs, e⟩ := R.hid a (List.mem_cons_of_mem _ m)
    refine ⟨fun z => ?_, xs, e⟩
    rcases List.mem_append.mp z with z | z
    · exact n z
    · have e : some a = some p := by simpa using z
      cases e
      exact n2 m
  inj := fun i j a h1 h2 => by
    have h1 : (ρ.c ++ [some p])[i]? = some (some a) := h1
    have h2 : (ρ.c ++ [some p])[j]? = some (some a) := h2
    have hf : some p ∉ ρ.c := (R.hid p List.mem_cons_self).1
    have side : ∀ k : Nat, (ρ.c ++ [some p])[k]? = some (some a) → ρ.c[k]? = some (some a) ∨ (k = ρ.c.length ∧ a = p) := fun k h => by
      by_cases hk : k < ρ.c.length
      · rw [List.getElem?_append_left hk] at h
        exact .inl h
      · have hk2 := (List.getElem?_eq_some_iff.mp h).1
        rw [List.length_append] at hk2
        have hk3 : k = ρ.c.length := by
          have : [some p].length = 1 := rfl
          omega
        subst hk3
        rw [get_last] at h
        cases h
        exact .inr ⟨rfl, rfl⟩
    rcases side i h1 with q | ⟨q, e⟩ <;> rcases side j h2 with r | ⟨r, f⟩
    · exact R.unhide.inj i j a q r
    · subst f; exact absurd (mem_of_get q) hf
    · subst e; exact absurd (mem_of_get r) hf
    · rw [q, r]
  obj := fun j u e => by
    have T : Tr (ρ.hide p) H (ρ.add p) H := Tr.told hp
    by_cases hj : j < M.length
    · rw [List.getElem?_append_left hj] at e
      have x := R.obj j u e
      cases u with
      | lst ds =>
        obtain ⟨b, xs, h1, h2, h3⟩ := x
        exact ⟨b, xs, get_front h1, h2, Dens.tr T _ _ h3⟩
      | dct kvs =>
        obtain ⟨b, xs, h1, h2, h3⟩ := x
        exact ⟨b, xs, get_front h1, h2, DenP.tr T h3⟩
      | ins C fs =>
        obtain ⟨b, Ca, dx, gs, h1, cn, h2, h3⟩ := x
        exact ⟨b, Ca, dx, gs, get_front h1, cn, h2, DenP.tr T h3⟩
      | gone => exact get_front x
    · have hj2 := (List.getElem?_eq_some_iff.mp e).1
      rw [List.length_append] at hj2
      have hj3 : j = M.length := by
        have : [MO.lst ds].length = 1 := rfl
        omega
      subst hj3
      rw [get_last] at e
      cases e
      exact ⟨p, xs, R.unhide.lastAt, hp, Dens.tr T _ _ dd⟩
end
def mLcC (mi : MA) (g : D → En → Option En) (t : MT) (e : ME) (vs : List Nat) : ME := fun env M => (mi env M).bind fun items M1 => if items.length < lim then (lcGo (lcOne g t e (wipeE env vs)) items M1).bind fun ds M2 => .ok (.ref M2.length) (M2 ++ [.lst ds]) else .err
section
variable {X : Cx} {W : WX}
theorem lc_impC {K : PySem.W.Frag} {mi : MA} {js vs : List Nat} {g : D → En → Option En} {mt : MT} {me : ME} {σ : L2.St} {H : Hp} {Q : VK} (hj : ∀ j ∈ js, j ∈ vs) (h : tm K (DnD K) W (mLcC mi g mt me vs) σ H Q) :
    tLc (tm K (DnI K) W mi) (gW K js g) (tm K DnB W0 mt) (tm K (DnD K) W0 me) vs σ H Q := by
  refine tm_bind (f := fun items env M1 => if items.length < lim then (lcGo (lcOne g mt me (wipeE env vs)) items M1).bind fun ds M2 => (R.ok (D.ref M2.length) (M2 ++ [.lst ds]) : R D) else .err) h fun items M1 ρ1 H1 J env R1 E1 wk h => ?_
  intro Dl hD
  split at h
  rotate_left
  · exact h.elim
  rename_i hlim
  have tot : lcGo (lcOne g mt me (wipeE env vs)) items M1 ≠ .err := fun e => by
    rw [e] at h
    exact h
  -- the walk over the items
  have wk' : Wk K ρ1 H1 J items := wk
  refine ⟨fun i m H' => m = items.length - i ∧ i ≤ items.length ∧ LcP K ρ1 M1 H1 Dl (lcOne g mt me (wipeE env vs)) items i H', ⟨items.length, by simp, Nat.zero_le _, lcP_start R1 hD⟩, ?_⟩
  rintro i m H' ⟨rfl, hi', ρ, M, acc, ds, Rl, S, T, eD, dd, hl, eq⟩
  by_cases hlt : i < items.length
  · refine .inr ⟨wk'.goes i _ M H' hlt Rl T (S.fk R1), fun H'' => i + 1 ≤ items.length ∧ LcP K ρ1 M1 H1 Dl (lcOne g mt me (wipeE env vs)) items (i + 1) H'', fun H'' p => ⟨items.length - (i + 1), by omega, rfl, p.1, p.2⟩, fun x H2 y => ?_⟩
    have hx : items[i]? = some items[i] := List.getElem?_eq_getElem hlt
    obtain ⟨R2, S2, dx⟩ := wk'.yields i _ M H' x H2 items[i] hx Rl T (S.fk R1) y
    have T2 : Tr (ρ.hide Dl) H' (ρ.hide Dl) H2 := S2.tr Rl
    rw [drop_cons hx] at eq
    -- what the turn comes to
    have e1 : ∀ r, lcOne g mt me (wipeE env vs) items[i] M = r → r ≠ .err := fun r e z => by
      refine tot ?_
      rw [eq]
      show ((lcOne g mt me (wipeE env vs) items[i] M).bind _).bind _ = _
      rw [e, z]
      rfl
    cases hgx : g items[i] (wipeE env vs) with
    | none => exact absurd (by unfold lcOne; rw [hgx]) (e1 _ rfl)
    | some env' =>
      have E2 : EnR K (ρ.hide Dl) H2 (wipeE env vs) (L2.wipe σ vs) := ((E1.tr T).tr T2).wipe _
      refine ⟨ρ.hide Dl, M, items[i], _, env', R2, E2, dx, hgx, fun σ2 E3 l3 keep => ⟨wipe_same (by rw [l3, wipe_length]) fun k hk => keep k fun z => hk (hj k z), ?_⟩⟩
      -- the tests
      have step : lcOne g mt me (wipeE env vs) items[i] M = (noX (mt env' M)).bind fun b M1 => if b = true then (noX (me env' M1)).bind fun d M2 => .ok (some d) M2 else .ok none M1 := by
        unfold lcOne
        rw [hgx]
      refine ⟨ρ.hide Dl, M, env', R2, E3, ?_⟩
      cases ht1 : mt env' M with
      | err => exact (e1 _ (by rw [step, ht1]; rfl)) rfl
      | exc c fs Mx => exact ((e1 _ (by rw [step, ht1]; rfl)) rfl).elim
      | ok b M3 =>
        intro ρ3 H3 b' S3 R3 eb
        cases (show b = b' from eb)
        have eD3 : H3 Dl = some (.lst acc) := S3.keep Dl _ (S2.keep Dl _ eD (Rl.hid Dl List.mem_cons_self).1) (R2.hid Dl List.mem_cons_self).1
        have T3 : Tr (ρ.hide Dl) H' ρ3 H3 := T2.trans (S3.tr R2)
        have Sx : Stp (ρ.hide Dl) H' ρ3 H3 := S2.trans S3
        cases b with
        | false =>
          show (if false = true then _ else _)
          rw [if_neg (by decide)]
          refine ⟨hlt, ⟨ρ3.c, ρ.h⟩, M3, acc, ds, ?_, stp_out hD S Sx, ?_, eD3, ?_, Nat.le_succ_of_le hl, ?_⟩
          · rw [← rho_hide Sx.hid]; exact R3
          · rw [← rho_hide Sx.hid]; exact T.trans T3
          · rw [← rho_hide Sx.hid]; exact Dens.tr T3 _ _ dd
          · rw [eq]
            show ((lcOne g mt me (wipeE env vs) items[i] M).bind _).bind _ = _
            rw [step, ht1]
            show (((R.ok (none : Option D) M3)).bind _).bind _ = _
            simp only [R.bind_ok]
            cases lcGo (lcOne g mt me (wipeE env vs)) (items.drop (i + 1)) M3 <;> rfl
        | true =>
          show (if true = true then _ else _)
          rw [if_pos rfl]
          refine ⟨ρ3, M3, env', R3, E3.tr (S3.tr R2), ?_⟩
          cases he1 : me env' M3 with
          | err => exact (e1 _ (by rw [step, ht1]; show (R.bind (noX (me env' M3)) _) = _; rw [he1]; rfl)) rfl
          | exc c fs Mx => exact ((e1 _ (by rw [step, ht1]; show (R.bind (noX (me env' M3)) _) = _; rw [he1]; rfl)) rfl).elim
          | ok d M4 =>
            intro ρ4 H4 v S4 R4 dv
            have m3 : Dl ∈ ρ3.h := by rw [Sx.hid]; exact List.mem_cons_self
            have m4 : Dl ∈ ρ4.h := by rw [S4.hid]; exact m3
            have eD4 : H4 Dl = some (.lst acc) := S4.keep Dl _ eD3 (R3.hid Dl m3).1
            have Sy : Stp (ρ.hide Dl) H' ρ4 H4 := Sx.trans S4
            have T4 : Tr (ρ.hide Dl) H' ρ4 H4 := T3.trans (S4.tr R3)
            have T5 : Tr ρ4 H4 ρ4 (upd H4 Dl (.lst (acc ++ [v]))) := Tr.hidden m4 eD4
            have hsz : acc.length < sizeLine := lim_lt (by omega)
            refine ⟨acc, eD4, hsz, hlt, ⟨ρ4.c, ρ.h⟩, M4, acc ++ [v], ds ++ [d], ?_, stp_app hD (stp_out hD S Sy), ?_, upd_same, ?_, ?_, ?_⟩
            · rw [← rho_hide Sy.hid]; exact R4.hidden m4 eD4
            · rw [← rho_hide Sy.hid]; exact (T.trans T4).trans T5
            · rw [← rho_hide Sy.hid]
              exact (Dens.tr (T4.trans T5) _ _ dd).append (dens_cons.mpr ⟨v, [], rfl, Den.tr T5 _ _ dv, dens_nil.mpr rfl⟩)
            · rw [List.length_append]
              show acc.length + 1 ≤ i + 1
              omega
            · rw [eq]
              show ((lcOne g mt me (wipeE env vs) items[i] M).bind _).bind _ = _
              rw [step, ht1]
              show ((R.bind (noX (me env' M3)) _).bind _).bind _ = _
              rw [he1]
              show (((R.ok (some d) M4)).bind _).bind _ = _
              simp only [R.bind_ok]
              cases lcGo (lcOne g mt me (wipeE env vs)) (items.drop (i + 1)) M4 with
              | ok r M5 => simp
              | exc c fs M5 => rfl
              | err => rfl
  · have e : i = items.length := by omega
    subst e
    refine .inl ⟨wk'.stops _ M H' Rl T (S.fk R1), ?_⟩
    rw [List.drop_length] at eq
    have eq2 : lcGo (lcOne g mt me (wipeE env vs)) items M1 = .ok (ds ++ []) M := eq
    rw [eq2, List.append_nil] at h
    obtain ⟨n1, _⟩ := Rl.hid Dl List.mem_cons_self
    have n2 : Dl ∉ ρ.h := by
      rw [S.hid]
      exact R1.freshH hD
    exact h (ρ.add Dl) H' (.ref Dl) (stp_told S hD) (Rl.told eD dd n2) (den_ref.mpr ⟨Dl, some Dl, rfl, Rl.unhide.lastAt, fun b e => Option.some.inj e.symm⟩)
theorem s_lcC {elt tg iter : Expr} {ifs : List Expr} {scope : Scope} {own : List (Str × Nat)} {pos : Pos} {mi : MA} {js : List Nat} {g : D → En → Option En} {mt : MT} {me : ME} (hc : X.calm = true) (hN : X.N.Nodup) (hi : SI X W tg iter mi) (ok : BlkOk X.N X.env.scope scope own)
    (hj : ∀ j ∈ js, j ∈ own.map (·.2))
    (hg : ∀ (s : Shared) (H : Hp) (C : Addr) (cl : List (Str × Addr)) (fp : List Addr), SG (X.blk s H scope (compEnvC scope cl C X.env) fp) tg js g)
    (ht : ∀ (s : Shared) (H : Hp) (C : Addr) (cl : List (Str × Addr)) (fp : List Addr), SPt (X.blk s H scope (compEnvC scope cl C X.env) fp) W0 ifs mt)
    (he : ∀ (s : Shared) (H : Hp) (C : Addr) (cl : List (Str × Addr)) (fp : List Addr), SE (X.blk s H scope (compEnvC scope cl C X.env) fp) W0 elt me) (hs : ∀ x, foldedSetIterable iter X.env x = pure x := by intro _; rfl) :
    SE X W (.ListComp elt [⟨tg, iter, ifs, 0⟩] scope pos) (mLcC mi g mt me (own.map (·.2))) :=
  pe_imp (pe_lc (g := gW X.K js g) (tt := tm X.K DnB W0 mt) (te := tm X.K (DnD X.K) W0 me) hc hN hi ok (fun s H C cl fp => gW_of (hg s H C cl fp)) (fun s H C cl fp => ht s H C cl fp) (fun s H C cl fp => he s H C cl fp) hs) fun _ _ _ h => lc_impC hj h
end
end Mi

end

section
/-! Mi, part 33: int, list.index, |, dict.get. -/
namespace Mi
open PySem PySem.Spec PyProof.Rows L2
def intD : OpN := fun xs M => match xs with
  | [.int i] => .ok (.int i) M
  | [.bl b] => .ok (.int (if b then 1 else 0)) M
  | _ => .err
theorem q_intD : QuietN intD := by
  intro x M c fs M' e
  unfold intD at e
  (repeat' split at e) <;> cases e
def indexD : OpM := fun x xs M => match x with
  | .lst ds => match xs with
    | [y] => if scal y && ds.all scal then match ds.findIdx? (fun z => deq z y) with
        | some j => .ok (.int j) M
        | none => .err
      else .err
    | _ => .err
  | _ => .err
theorem q_index : QuietM indexD := by
  intro x xs M c fs M' e
  unfold indexD at e
  (repeat' split at e) <;> cases e
section
variable {X : Cx} {W : WX}
theorem o_intD : OpNR X (.type "int") intD := by
  intro ρ M H xs vs Q Rl dv h
  unfold intD at h
  split at h
  · obtain ⟨v, rfl, d⟩ := dens_one dv
    rw [den_int] at d
    subst d
    exact ⟨_, call_int1, .inl ⟨_, rfl, here Rl h (den_int.mpr rfl)⟩⟩
  · obtain ⟨v, rfl, d⟩ := dens_one dv
    rw [den_bl] at d
    subst d
    exact ⟨_, call_int1, .inr ⟨_, rfl, here Rl h (den_int.mpr rfl)⟩⟩
  · exact h.elim
theorem all_flatV {K : PySem.W.Frag} {ρ : Rho} {H : Hp} : ∀ {ds : List D} {xs : List V}, ds.all scal = true → Dens K ρ H ds xs → xs.all flatV = true
  | [], xs, _, h => by
    rw [dens_nil] at h
    subst h
    rfl
  | d :: ds, xs, s, h => by
    obtain ⟨v, r, rfl, h1, h2⟩ := dens_cons.mp h
    rw [List.all_cons, Bool.and_eq_true] at s
    rw [List.all_cons, scal_flat s.1 h1, all_flatV s.2 h2]
    rfl
theorem o_index : OpMR X "list.index" indexD := by
  intro ρ M H x xs v vs Q Rl dx dv h
  unfold indexD at h
  split at h
  · rename_i ds
    split at h
    · rename_i y
      split at h
      · rename_i hs
        rw [Bool.and_eq_true] at hs
        split at h
        · rename_i j e
          obtain ⟨w, rfl, dy⟩ := dens_one dv
          obtain ⟨a, ys, rfl, hsq, hd⟩ := den_lst.mp dx
          obtain ⟨hj, e1, e2⟩ := List.findIdx?_eq_some_iff_getElem.mp e
          have ej : ds[j]? = some ds[j] := List.getElem?_eq_getElem hj
          obtain ⟨z, h1, h2⟩ := hd.get ej
          have sc : ∀ i (hi : i < ds.length), scal ds[i] = true := fun i hi => List.all_eq_true.mp hs.2 _ (List.getElem_mem hi)
          refine ⟨_, mt_index, a, ys, w, j, z, rfl, rfl, hsq.sq, scal_flat hs.1 dy, all_flatV hs.2 hd, h1, by rw [scal_eq (sc j hj) hs.1 h2 dy]; exact e1, fun m z' hm ez => ?_, here Rl h (den_int.mpr rfl)⟩
          obtain ⟨d', f1, f2⟩ := hd.getV ez
          obtain ⟨hm2, rfl⟩ := List.getElem?_eq_some_iff.mp f1
          rw [scal_eq (sc m hm2) hs.1 f2 dy]
          simpa using e2 m hm
        · exact h.elim
      · exact h.elim
    · exact h.elim
  · exact h.elim
end
end Mi
namespace Mi
open PySem PySem.Spec PyProof.Rows L2
theorem atm_mk {K : PySem.W.Frag} {mg : Str → Option Value} {cls m qual : Str} {st : Stmt} {C f : Addr} {oc : Value} {od an : Option Addr} {sl : Array (Option Value)} {kV dc pm cd ct : Value} (o : OwnC K mg cls C) (fi : PySem.W.findIn K (.ref C) m = some (some (.ref f))) (fn : PySem.W.isFn K (.ref f) = true)
    (l : K.lookup f = some ⟨oc, od, .func (PySem.W.fnOf m qual (defArgs st) (defBody st) (defScope st) .none kV dc pm an cd ct), sl⟩) (c : PySem.W.codeIn K cd qual = true) (k : PySem.W.keepIn K (.ref f) = true) : AtM K mg cls m qual st :=
  ⟨C, f, _, o, fi, fn, ⟨⟨oc, od, .none, kV, dc, pm, an, cd, ct, sl, rfl, l, c, .inl ⟨rfl, rfl⟩, .inl rfl⟩, k⟩⟩
def orD : Op2 := int2 fun i j => some (Builtin.bitOr i j)
theorem o_or {X : Cx} : Op2R X (binaryOp .BitOr) orD := o_int2' op_or fun i j z e => by cases e; rfl
end Mi

end

section
set_option maxHeartbeats 4000000
namespace K24
open PySem PySem.Spec PyProof.Rows L2 Mi
/-! ### the text -/
def topS (i : Nat) : Stmt := PySem.Challenge.pw_letterbench_k24_rows_run.main.body.getD i (.Pass ⟨0, 0, 0, 0⟩)
abbrev st_Machine_M___init__ : Stmt := inClass (topS 5) 0
abbrev N_Machine_M___init__ : List Str := ["self", "some", "_"]
theorem sc_Machine_M___init__ : FnScope N_Machine_M___init__ ["self", "some"] (defScope st_Machine_M___init__) := ⟨rfl, rfl, rfl, by decide +kernel, rfl, by decide +kernel, by decide +kernel⟩
abbrev st_is_so : Stmt := topS 1
abbrev N_is_so : List Str := ["number", "word", "worth"]
theorem sc_is_so : FnScope N_is_so ["number", "word", "worth"] (defScope st_is_so) := ⟨rfl, rfl, rfl, by decide +kernel, rfl, by decide +kernel, by decide +kernel⟩
abbrev st_number_in : Stmt := topS 2
abbrev N_number_in : List Str := ["some", "order", "highest_first", "number", "byte"]
theorem sc_number_in : FnScope N_number_in ["some", "order"] (defScope st_number_in) := ⟨rfl, rfl, rfl, by decide +kernel, rfl, by decide +kernel, by decide +kernel⟩
abbrev st_put_in_box : Stmt := topS 6
abbrev N_put_in_box : List Str := ["machine", "box", "worth", "end"]
theorem sc_put_in_box : FnScope N_put_in_box ["machine", "box", "worth", "end"] (defScope st_put_in_box) := ⟨rfl, rfl, rfl, by decide +kernel, rfl, by decide +kernel, by decide +kernel⟩
abbrev st_do_take : Stmt := topS 7
abbrev N_do_take : List Str := ["machine", "row", "_", "box", "more", "size", "order", "begin", "end"]
theorem sc_do_take : FnScope N_do_take ["machine", "row"] (defScope st_do_take) := ⟨rfl, rfl, rfl, by decide +kernel, rfl, by decide +kernel, by decide +kernel⟩
abbrev st_do_part : Stmt := topS 8
abbrev N_do_part : List Str := ["machine", "row", "_", "box", "more", "shift", "width", "at"]
theorem sc_do_part : FnScope N_do_part ["machine", "row"] (defScope st_do_part) := ⟨rfl, rfl, rfl, by decide +kernel, rfl, by decide +kernel, by decide +kernel⟩
abbrev st_go_on : Stmt := topS 9
abbrev N_go_on : List Str := ["machine", "more"]
theorem sc_go_on : FnScope N_go_on ["machine", "more"] (defScope st_go_on) := ⟨rfl, rfl, rfl, by decide +kernel, rfl, by decide +kernel, by decide +kernel⟩
abbrev st_do_move : Stmt := topS 10
abbrev N_do_move : List Str := ["machine", "row"]
theorem sc_do_move : FnScope N_do_move ["machine", "row"] (defScope st_do_move) := ⟨rfl, rfl, rfl, by decide +kernel, rfl, by decide +kernel, by decide +kernel⟩
abbrev st_do_skip : Stmt := topS 11
abbrev N_do_skip : List Str := ["machine", "row", "_", "box", "times", "more"]
theorem sc_do_skip : FnScope N_do_skip ["machine", "row"] (defScope st_do_skip) := ⟨rfl, rfl, rfl, by decide +kernel, rfl, by decide +kernel, by decide +kernel⟩
abbrev st_do_ask : Stmt := topS 12
abbrev N_do_ask : List Str := ["machine", "row", "_", "box", "word", "worth"]
theorem sc_do_ask : FnScope N_do_ask ["machine", "row"] (defScope st_do_ask) := ⟨rfl, rfl, rfl, by decide +kernel, rfl, by decide +kernel, by decide +kernel⟩
abbrev st_do_go : Stmt := topS 13
abbrev N_do_go : List Str := ["_machine", "_row"]
theorem sc_do_go : FnScope N_do_go ["_machine", "_row"] (defScope st_do_go) := ⟨rfl, rfl, rfl, by decide +kernel, rfl, by decide +kernel, by decide +kernel⟩
abbrev st_do_back : Stmt := topS 14
abbrev N_do_back : List Str := ["machine", "_row"]
theorem sc_do_back : FnScope N_do_back ["machine", "_row"] (defScope st_do_back) := ⟨rfl, rfl, rfl, by decide +kernel, rfl, by decide +kernel, by decide +kernel⟩
abbrev st_run : Stmt := topS 16
abbrev N_run : List Str := ["rows", "some", "machine", "at", "row", "deed"]
theorem sc_run : FnScope N_run ["rows", "some"] (defScope st_run) := ⟨rfl, rfl, rfl, by decide +kernel, rfl, by decide +kernel, by decide +kernel⟩
abbrev st__law_pool : Stmt := topS 18
abbrev N__law_pool : List Str := ["_law_script", "_law_k", "_law_cell", "_law_size", "_law_seed"]
theorem sc__law_pool : FnScope N__law_pool ["_law_script", "_law_k"] (defScope st__law_pool) := ⟨rfl, rfl, rfl, by decide +kernel, rfl, by decide +kernel, by decide +kernel⟩
abbrev st__law_take : Stmt := topS 19
abbrev N__law_take : List Str := ["_law_pool_here", "_law_many", "_law_found"]
theorem sc__law_take : FnScope N__law_take ["_law_pool_here", "_law_many"] (defScope st__law_take) := ⟨rfl, rfl, rfl, by decide +kernel, rfl, by decide +kernel, by decide +kernel⟩
abbrev st__law_worth : Stmt := topS 20
abbrev N__law_worth : List Str := ["_law_some", "_law_order", "_law_found", "_law_one"]
theorem sc__law_worth : FnScope N__law_worth ["_law_some", "_law_order"] (defScope st__law_worth) := ⟨rfl, rfl, rfl, by decide +kernel, rfl, by decide +kernel, by decide +kernel⟩
abbrev st__law_bytes : Stmt := topS 21
abbrev N__law_bytes : List Str := ["_law_pool_here", "_law_many", "_law_found", "_law_turn"]
theorem sc__law_bytes : FnScope N__law_bytes ["_law_pool_here", "_law_many"] (defScope st__law_bytes) := ⟨rfl, rfl, rfl, by decide +kernel, rfl, by decide +kernel, by decide +kernel⟩
abbrev st__law_drawn_row : Stmt := topS 22
abbrev N__law_drawn_row : List Str := ["_law_pool_here", "_law_number", "_law_many", "_law_boxes", "_law_to", "_law_box", "_law_way"]
theorem sc__law_drawn_row : FnScope N__law_drawn_row ["_law_pool_here", "_law_number", "_law_many", "_law_boxes"] (defScope st__law_drawn_row) := ⟨rfl, rfl, rfl, by decide +kernel, rfl, by decide +kernel, by decide +kernel⟩
abbrev st__law_drawn_rows : Stmt := topS 23
abbrev N__law_drawn_rows : List Str := ["_law_pool_here", "_law_boxes", "_law_many", "_law_found", "_law_box", "_law_order", "_law_number"]
theorem sc__law_drawn_rows : FnScope N__law_drawn_rows ["_law_pool_here", "_law_boxes"] (defScope st__law_drawn_rows) := ⟨rfl, rfl, rfl, by decide +kernel, rfl, by decide +kernel, by decide +kernel⟩
abbrev st__law_told_by : Stmt := topS 24
abbrev N__law_told_by : List Str := ["_law_rows", "_law_some", "_law_number", "_law_place", "_law_seen", "_law_boxes", "_law_row", "_law_begin", "_law_end", "_law_far", "_law_own"]
theorem sc__law_told_by : FnScope N__law_told_by ["_law_rows", "_law_some"] (defScope st__law_told_by) := ⟨rfl, rfl, rfl, by decide +kernel, rfl, by decide +kernel, by decide +kernel⟩
abbrev st_law : Stmt := topS 25
abbrev N_law : List Str := ["_law_script", "_law_k", "_law_pool_here", "_law_turn", "_law_rows", "_law_some", "_law_kept", "_law_stays", "_law_again"]
theorem sc_law : FnScope N_law ["_law_script"] (defScope st_law) := ⟨rfl, rfl, rfl, by decide +kernel, rfl, by decide +kernel, by decide +kernel⟩
/-! ### tables -/
def tbl_DEEDS : List (Str × D) := [("take", .fn "do_take"), ("part", .fn "do_part"), ("move", .fn "do_move"), ("skip", .fn "do_skip"), ("ask", .fn "do_ask"), ("go", .fn "do_go"), ("back", .fn "do_back")]
def ctab : ATab := [("Machine", ["some", "boxes", "place", "seen"])]
def atab : ATab := []
/-! ### the functions -/
noncomputable def p_Machine_M___init___C0 : ME := mC (.int 0)
noncomputable def b_Machine_M___init__ : MS := bCons (cFld ctab "some" (mVar 1) (mVar 0))
  (bCons (cFld ctab "boxes" (mLcC (mI rng1D (aCons (mC (.int 8)) (aNil))) (gNam 2) (mYes) (p_Machine_M___init___C0) [2]) (mVar 0))
  (bCons (cFld ctab "place" (mC (.int 0)) (mVar 0))
  (bCons (cFld ctab "seen" (mC (.int 0)) (mVar 0))
  (bNil))))
noncomputable def m_Machine_M___init__ : MF := sealed (mFn 3 b_Machine_M___init__)
theorem m_Machine_M___init___eq : m_Machine_M___init__ = mFn 3 b_Machine_M___init__ := sealed_eq _
noncomputable def b_is_so : MS := bCons (cIf (mB (m2 eqD (mVar 1) (mC (.str "same")))) (bCons (cRet (m2 eqD (mVar 0) (mVar 2)))
  (bNil)) (bNil))
  (bCons (cIf (mB (m2 eqD (mVar 1) (mC (.str "less")))) (bCons (cRet (m2 ltD (mVar 0) (mVar 2)))
  (bNil)) (bNil))
  (bCons (cRet (m2 gtD (mVar 0) (mVar 2)))
  (bNil)))
noncomputable def m_is_so : MF := sealed (mFn 3 b_is_so)
theorem m_is_so_eq : m_is_so = mFn 3 b_is_so := sealed_eq _
noncomputable def p_number_in_L0 : MS := bCons (cAsg (m2 addD (m2 mulD (mVar 3) (mC (.int 256))) (mVar 4)) (gNam 3))
  (bNil)
noncomputable def b_number_in : MS := bCons (cAsg (mVar 0) (gNam 2))
  (bCons (cIf (mB (m2 eqD (mVar 1) (mC (.str "small")))) (bCons (cAsg (m2 revD (mVar 0) (m1 negD (mC (.int 1)))) (gNam 2))
  (bNil)) (bNil))
  (bCons (cAsg (mC (.int 0)) (gNam 3))
  (bCons (cFor (mItems (mVar 2)) (gNam 4) (p_number_in_L0))
  (bCons (cRet (mVar 3))
  (bNil)))))
noncomputable def m_number_in : MF := sealed (mFn 5 b_number_in)
theorem m_number_in_eq : m_number_in = mFn 5 b_number_in := sealed_eq _
noncomputable def b_put_in_box : MS := bCons (cPut (mVar 2) (m1 (fldD ctab "boxes") (mVar 0)) (mVar 1))
  (bCons (cFld ctab "seen" (mN max2D (aCons (m1 (fldD ctab "seen") (mVar 0)) (aCons (mVar 3) (aNil)))) (mVar 0))
  (bNil))
noncomputable def m_put_in_box : MF := sealed (mFn 4 b_put_in_box)
theorem m_put_in_box_eq : m_put_in_box = mFn 4 b_put_in_box := sealed_eq _
noncomputable def b_go_on : MS := bCons (cIf (mOrT (mB (m2 ltD (mVar 1) (mC (.int 0)))) (mB (m2 gtD (m2 addD (m1 (fldD ctab "place") (mVar 0)) (mVar 1)) (mN lenD (aCons (m1 (fldD ctab "some") (mVar 0)) (aNil)))))) (bCons (cRet (mC (.bl true)))
  (bNil)) (bNil))
  (bCons (cFldAdd ctab "place" (mVar 0) (mVar 1))
  (bCons (cRet (mC (.bl false)))
  (bNil)))
noncomputable def m_go_on : MF := sealed (mFn 2 b_go_on)
theorem m_go_on_eq : m_go_on = mFn 2 b_go_on := sealed_eq _
noncomputable def b_do_go : MS := bCons (cRet (mC (.bl true)))
  (bNil)
noncomputable def m_do_go : MF := sealed (mFn 2 b_do_go)
theorem m_do_go_eq : m_do_go = mFn 2 b_do_go := sealed_eq _
noncomputable def b_do_back : MS := bCons (cFld ctab "place" (mC (.int 0)) (mVar 0))
  (bCons (cRet (mC (.bl false)))
  (bNil))
noncomputable def m_do_back : MF := sealed (mFn 2 b_do_back)
theorem m_do_back_eq : m_do_back = mFn 2 b_do_back := sealed_eq _
noncomputable def b_law_pool : MS := bCons (cAsg (mC (.int 0)) (gNam 2))
  (bCons (cIf (mB (m2 ltD (mVar 1) (mN lenD (aCons (mVar 0) (aNil))))) (bCons (cAsg (m2 ixD (mVar 0) (mVar 1)) (gNam 2))
  (bNil)) (bNil))
  (bCons (cAsg (mN absD (aCons (mVar 2) (aNil))) (gNam 3))
  (bCons (cAsg (m2 modD (m2 mulD (m2 addD (m2 addD (m2 modD (mVar 3) (mC (.int 2147483629))) (m2 mulD (mC (.int 7919)) (mVar 1))) (mC (.int 31))) (mC (.int 48271))) (mC (.int 2147483647))) (gNam 4))
  (bCons (cRet (mN celD (aCons (m2 mulD (mVar 3) (mN intD (aCons (m2 geD (mVar 3) (m2 powD (mC (.int 10)) (mC (.int 18)))) (aNil)))) (aCons (mVar 4) (aNil)))))
  (bNil)))))
noncomputable def m_law_pool : MF := sealed (mFn 5 b_law_pool)
theorem m_law_pool_eq : m_law_pool = mFn 5 b_law_pool := sealed_eq _
noncomputable def b_law_take : MS := bCons (cIf (mB (m2 gtD (m2 ixD (mVar 0) (mC (.int 0))) (mC (.int 0)))) (bCons (cAsg (m2 modD (m2 ixD (mVar 0) (mC (.int 0))) (mVar 1)) (gNam 2))
  (bCons (cPut (m2 fdivD (m2 ixD (mVar 0) (mC (.int 0))) (mVar 1)) (mVar 0) (mC (.int 0)))
  (bCons (cRet (mVar 2))
  (bNil)))) (bNil))
  (bCons (cPut (m2 modD (m2 addD (m2 mulD (m2 ixD (mVar 0) (mC (.int 1))) (mC (.int 48271))) (mC (.int 11))) (mC (.int 2147483647))) (mVar 0) (mC (.int 1)))
  (bCons (cRet (m2 modD (m2 fdivD (m2 modD (m2 mulD (m2 ixD (mVar 0) (mC (.int 1))) (m2 ixD (mVar 0) (mC (.int 1)))) (mC (.int 2147483629))) (mC (.int 64))) (mVar 1)))
  (bNil)))
noncomputable def m_law_take : MF := sealed (mFn 3 b_law_take)
theorem m_law_take_eq : m_law_take = mFn 3 b_law_take := sealed_eq _
noncomputable def p_law_worth_L0 : MS := bCons (cAsg (m2 addD (m2 mulD (mVar 2) (mC (.int 256))) (mVar 3)) (gNam 2))
  (bNil)
noncomputable def b_law_worth : MS := bCons (cAsg (mC (.int 0)) (gNam 2))
  (bCons (cFor (mItems (m2 ixD (mN lstD (aCons (m2 revD (mVar 0) (m1 negD (mC (.int 1)))) (aCons (mVar 0) (aNil)))) (mN intD (aCons (m2 eqD (mVar 1) (mC (.str "big"))) (aNil))))) (gNam 3) (p_law_worth_L0))
  (bCons (cRet (mVar 2))
  (bNil)))
noncomputable def m_law_worth : MF := sealed (mFn 4 b_law_worth)
theorem m_law_worth_eq : m_law_worth = mFn 4 b_law_worth := sealed_eq _
noncomputable def b_do_take : MS := bCons (cAsg (mVar 1) (gTupD 6 (gsCons (gNam 2) (gsCons (gNam 3) (gsCons (gNam 4) (gsCons (gNam 5) (gsCons (gNam 6) (gsCons (gNam 2) (gsNil)))))))))
  (bCons (cAsg (m2 addD (m1 (fldD ctab "place") (mVar 0)) (mVar 4)) (gNam 7))
  (bCons (cAsg (m2 addD (mVar 7) (mVar 5)) (gNam 8))
  (bCons (cIf (mB (m2 gtD (mVar 8) (mN lenD (aCons (m1 (fldD ctab "some") (mVar 0)) (aNil))))) (bCons (cRet (mC (.bl true)))
  (bNil)) (bNil))
  (bCons (cExp (mCall m_put_in_box 4 0 [.p 0, .p 1, .p 2, .p 3] [] (aCons (mVar 0) (aCons (mVar 3) (aCons (mCall m_number_in 1 1 [.p 0, .k 0] [] (aCons (mSl (m1 (fldD ctab "some") (mVar 0)) (mPart (mVar 7)) (mPart (mVar 8))) (aNil)) (aCons (mVar 6) (aNil))) (aCons (mVar 8) (aNil))))) (aNil)))
  (bCons (cRet (mC (.bl false)))
  (bNil))))))
noncomputable def m_do_take : MF := sealed (mFn 9 b_do_take)
theorem m_do_take_eq : m_do_take = mFn 9 b_do_take := sealed_eq _
noncomputable def b_do_part : MS := bCons (cAsg (mVar 1) (gTupD 6 (gsCons (gNam 2) (gsCons (gNam 3) (gsCons (gNam 4) (gsCons (gNam 5) (gsCons (gNam 6) (gsCons (gNam 2) (gsNil)))))))))
  (bCons (cAsg (m2 addD (m1 (fldD ctab "place") (mVar 0)) (mVar 4)) (gNam 7))
  (bCons (cIf (mB (m2 geD (mVar 7) (mN lenD (aCons (m1 (fldD ctab "some") (mVar 0)) (aNil))))) (bCons (cRet (mC (.bl true)))
  (bNil)) (bNil))
  (bCons (cExp (mCall m_put_in_box 4 0 [.p 0, .p 1, .p 2, .p 3] [] (aCons (mVar 0) (aCons (mVar 3) (aCons (m2 andD (m2 shrD (m2 ixD (m1 (fldD ctab "some") (mVar 0)) (mVar 7)) (mVar 5)) (m2 subD (m2 shlD (mC (.int 1)) (mVar 6)) (mC (.int 1)))) (aCons (m2 addD (mVar 7) (mC (.int 1))) (aNil))))) (aNil)))
  (bCons (cRet (mC (.bl false)))
  (bNil)))))
noncomputable def m_do_part : MF := sealed (mFn 8 b_do_part)
theorem m_do_part_eq : m_do_part = mFn 8 b_do_part := sealed_eq _
noncomputable def b_do_move : MS := bCons (cRet (mCall m_go_on 2 0 [.p 0, .p 1] [] (aCons (mVar 0) (aCons (m2 ixD (mVar 1) (mC (.int 1))) (aNil))) (aNil)))
  (bNil)
noncomputable def m_do_move : MF := sealed (mFn 2 b_do_move)
theorem m_do_move_eq : m_do_move = mFn 2 b_do_move := sealed_eq _
noncomputable def b_do_skip : MS := bCons (cAsg (mVar 1) (gTupD 5 (gsCons (gNam 2) (gsCons (gNam 3) (gsCons (gNam 4) (gsCons (gNam 5) (gsCons (gNam 2) (gsNil))))))))
  (bCons (cRet (mCall m_go_on 2 0 [.p 0, .p 1] [] (aCons (mVar 0) (aCons (m2 addD (m2 mulD (mVar 4) (m2 ixD (m1 (fldD ctab "boxes") (mVar 0)) (mVar 3))) (mVar 5)) (aNil))) (aNil)))
  (bNil))
noncomputable def m_do_skip : MF := sealed (mFn 6 b_do_skip)
theorem m_do_skip_eq : m_do_skip = mFn 6 b_do_skip := sealed_eq _
noncomputable def b_do_ask : MS := bCons (cAsg (mVar 1) (gTupD 5 (gsCons (gNam 2) (gsCons (gNam 3) (gsCons (gNam 4) (gsCons (gNam 5) (gsCons (gNam 2) (gsNil))))))))
  (bCons (cRet (mCall m_is_so 3 0 [.p 0, .p 1, .p 2] [] (aCons (m2 ixD (m1 (fldD ctab "boxes") (mVar 0)) (mVar 3)) (aCons (mVar 4) (aCons (mVar 5) (aNil)))) (aNil)))
  (bNil))
noncomputable def m_do_ask : MF := sealed (mFn 6 b_do_ask)
theorem m_do_ask_eq : m_do_ask = mFn 6 b_do_ask := sealed_eq _
noncomputable def p_law_bytes_L0 : MS := bCons (cExp (mMt "list" appD (mVar 2) (aCons (m2 ixD (mN lstD (aCons (mC (.int 0)) (aCons (mC (.int 1)) (aCons (mC (.int 2)) (aCons (mC (.int 3)) (aCons (mC (.int 4)) (aCons (mC (.int 5)) (aCons (mC (.int 255)) (aCons (mCall m_law_take 2 0 [.p 0, .p 1] [] (aCons (mVar 0) (aCons (mC (.int 256)) (aNil))) (aNil)) (aNil)))))))))) (mCall m_law_take 2 0 [.p 0, .p 1] [] (aCons (mVar 0) (aCons (mC (.int 8)) (aNil))) (aNil))) (aNil))))
  (bNil)
noncomputable def b_law_bytes : MS := bCons (cAsg (mN celD (aNil)) (gNam 2))
  (bCons (cFor (mI rng1D (aCons (mCall m_law_take 2 0 [.p 0, .p 1] [] (aCons (mVar 0) (aCons (m2 addD (mVar 1) (mC (.int 1))) (aNil))) (aNil)) (aNil))) (gNam 3) (p_law_bytes_L0))
  (bCons (cRet (mN tupOfD (aCons (mVar 2) (aNil))))
  (bNil)))
noncomputable def m_law_bytes : MF := sealed (mFn 4 b_law_bytes)
theorem m_law_bytes_eq : m_law_bytes = mFn 4 b_law_bytes := sealed_eq _
noncomputable def b_law_drawn_row : MS := bCons (cAsg (m2 addD (m2 addD (mVar 1) (mC (.int 1))) (mCall m_law_take 2 0 [.p 0, .p 1] [] (aCons (mVar 0) (aCons (m2 subD (m2 subD (mVar 2) (mC (.int 1))) (mVar 1)) (aNil))) (aNil))) (gNam 4))
  (bCons (cAsg (mCall m_law_take 2 0 [.p 0, .p 1] [] (aCons (mVar 0) (aCons (mVar 3) (aNil))) (aNil)) (gNam 5))
  (bCons (cAsg (mCall m_law_take 2 0 [.p 0, .p 1] [] (aCons (mVar 0) (aCons (mC (.int 9)) (aNil))) (aNil)) (gNam 6))
  (bCons (cIf (mB (m2 eqD (mVar 6) (mC (.int 0)))) (bCons (cRet (mN tupD (aCons (mC (.str "take")) (aCons (mVar 5) (aCons (mCall m_law_take 2 0 [.p 0, .p 1] [] (aCons (mVar 0) (aCons (mC (.int 4)) (aNil))) (aNil)) (aCons (m2 addD (mC (.int 1)) (mCall m_law_take 2 0 [.p 0, .p 1] [] (aCons (mVar 0) (aCons (mC (.int 3)) (aNil))) (aNil))) (aCons (m2 ixD (mN lstD (aCons (mC (.str "big")) (aCons (mC (.str "small")) (aNil)))) (mCall m_law_take 2 0 [.p 0, .p 1] [] (aCons (mVar 0) (aCons (mC (.int 2)) (aNil))) (aNil))) (aCons (mVar 4) (aNil)))))))))
  (bNil)) (bNil))
  (bCons (cIf (mB (m2 eqD (mVar 6) (mC (.int 1)))) (bCons (cRet (mN tupD (aCons (mC (.str "part")) (aCons (mVar 5) (aCons (mCall m_law_take 2 0 [.p 0, .p 1] [] (aCons (mVar 0) (aCons (mC (.int 4)) (aNil))) (aNil)) (aCons (mCall m_law_take 2 0 [.p 0, .p 1] [] (aCons (mVar 0) (aCons (mC (.int 8)) (aNil))) (aNil)) (aCons (m2 addD (mC (.int 1)) (mCall m_law_take 2 0 [.p 0, .p 1] [] (aCons (mVar 0) (aCons (mC (.int 8)) (aNil))) (aNil))) (aCons (mVar 4) (aNil)))))))))
  (bNil)) (bNil))
  (bCons (cIf (mB (m2 eqD (mVar 6) (mC (.int 2)))) (bCons (cRet (mN tupD (aCons (mC (.str "move")) (aCons (mCall m_law_take 2 0 [.p 0, .p 1] [] (aCons (mVar 0) (aCons (mC (.int 4)) (aNil))) (aNil)) (aCons (mVar 4) (aNil))))))
  (bNil)) (bNil))
  (bCons (cIf (mB (m2 eqD (mVar 6) (mC (.int 3)))) (bCons (cRet (mN tupD (aCons (mC (.str "skip")) (aCons (mVar 5) (aCons (m2 addD (mC (.int 1)) (mCall m_law_take 2 0 [.p 0, .p 1] [] (aCons (mVar 0) (aCons (mC (.int 3)) (aNil))) (aNil))) (aCons (m2 subD (mCall m_law_take 2 0 [.p 0, .p 1] [] (aCons (mVar 0) (aCons (mC (.int 5)) (aNil))) (aNil)) (mC (.int 2))) (aCons (mVar 4) (aNil))))))))
  (bNil)) (bNil))
  (bCons (cIf (mB (m2 eqD (mVar 6) (mC (.int 4)))) (bCons (cRet (mN tupD (aCons (mC (.str "go")) (aCons (mVar 4) (aNil)))))
  (bNil)) (bNil))
  (bCons (cIf (mB (m2 eqD (mVar 6) (mC (.int 5)))) (bCons (cRet (mN tupD (aCons (mC (.str "back")) (aNil))))
  (bNil)) (bNil))
  (bCons (cIf (mAndT (mB (m2 eqD (mVar 6) (mC (.int 6)))) (mB (m2 eqD (mCall m_law_take 2 0 [.p 0, .p 1] [] (aCons (mVar 0) (aCons (mC (.int 3)) (aNil))) (aNil)) (mC (.int 0))))) (bCons (cRet (mN tupD (aCons (mC (.str "end")) (aCons (m2 eqD (mCall m_law_take 2 0 [.p 0, .p 1] [] (aCons (mVar 0) (aCons (mC (.int 2)) (aNil))) (aNil)) (mC (.int 0))) (aNil)))))
  (bNil)) (bNil))
  (bCons (cRet (mN tupD (aCons (mC (.str "ask")) (aCons (mVar 5) (aCons (m2 ixD (mN lstD (aCons (mC (.str "same")) (aCons (mC (.str "less")) (aCons (mC (.str "more")) (aNil))))) (mCall m_law_take 2 0 [.p 0, .p 1] [] (aCons (mVar 0) (aCons (mC (.int 3)) (aNil))) (aNil))) (aCons (m2 ixD (mN lstD (aCons (mC (.int 0)) (aCons (mC (.int 1)) (aCons (mC (.int 2)) (aCons (mC (.int 3)) (aCons (mC (.int 255)) (aCons (mC (.int 256)) (aNil)))))))) (mCall m_law_take 2 0 [.p 0, .p 1] [] (aCons (mVar 0) (aCons (mC (.int 6)) (aNil))) (aNil))) (aCons (mVar 4) (aNil))))))))
  (bNil)))))))))))
noncomputable def m_law_drawn_row : MF := sealed (mFn 7 b_law_drawn_row)
theorem m_law_drawn_row_eq : m_law_drawn_row = mFn 7 b_law_drawn_row := sealed_eq _
noncomputable def p_law_told_by_L0 : MS := bCons (cAsg (m2 ixD (mVar 0) (mVar 2)) (gNam 6))
  (bCons (cAsg (m2 addD (mVar 2) (mC (.int 1))) (gNam 2))
  (bCons (cIf (mB (m2 eqD (m2 ixD (mVar 6) (mC (.int 0))) (mC (.str "go")))) (bCons (cAsg (m2 ixD (mVar 6) (mC (.int 1))) (gNam 2))
  (bNil)) (bNil))
  (bCons (cIf (mB (m2 eqD (m2 ixD (mVar 6) (mC (.int 0))) (mC (.str "back")))) (bCons (cAsg (mC (.int 0)) (gNam 3))
  (bNil)) (bNil))
  (bCons (cIf (mB (m2 (inD false) (m2 ixD (mVar 6) (mC (.int 0))) (mN tupD (aCons (mC (.str "take")) (aCons (mC (.str "part")) (aNil)))))) (bCons (cAsg (m2 addD (mVar 3) (m2 ixD (mVar 6) (mC (.int 2)))) (gNam 7))
  (bCons (cAsg (m2 addD (mVar 7) (m2 ixD (mN lstD (aCons (mC (.int 1)) (aCons (m2 ixD (mVar 6) (mC (.int 3))) (aNil)))) (mN intD (aCons (m2 eqD (m2 ixD (mVar 6) (mC (.int 0))) (mC (.str "take"))) (aNil))))) (gNam 8))
  (bCons (cIf (mB (m2 gtD (mVar 8) (mN lenD (aCons (mVar 1) (aNil))))) (bCons (cAsg (m2 ixD (mVar 6) (mC (.int 5))) (gNam 2))
  (bNil)) (bCons (cIf (mB (m2 eqD (m2 ixD (mVar 6) (mC (.int 0))) (mC (.str "take")))) (bCons (cPut (mCall m_law_worth 2 0 [.p 0, .p 1] [] (aCons (mSl (mVar 1) (mPart (mVar 7)) (mPart (mVar 8))) (aCons (m2 ixD (mVar 6) (mC (.int 4))) (aNil))) (aNil)) (mVar 5) (m2 ixD (mVar 6) (mC (.int 1))))
  (bCons (cAsg (mN max2D (aCons (mVar 4) (aCons (mVar 8) (aNil)))) (gNam 4))
  (bNil))) (bCons (cPut (m2 modD (m2 shrD (m2 ixD (mVar 1) (mVar 7)) (m2 ixD (mVar 6) (mC (.int 3)))) (m2 shlD (mC (.int 1)) (m2 ixD (mVar 6) (mC (.int 4))))) (mVar 5) (m2 ixD (mVar 6) (mC (.int 1))))
  (bCons (cAsg (mN max2D (aCons (mVar 4) (aCons (mVar 8) (aNil)))) (gNam 4))
  (bNil))))
  (bNil)))
  (bNil)))) (bNil))
  (bCons (cIf (mB (m2 (inD false) (m2 ixD (mVar 6) (mC (.int 0))) (mN tupD (aCons (mC (.str "move")) (aCons (mC (.str "skip")) (aNil)))))) (bCons (cAsg (mIf (mB (m2 eqD (m2 ixD (mVar 6) (mC (.int 0))) (mC (.str "move")))) (m2 ixD (mVar 6) (mC (.int 1))) (m2 addD (m2 mulD (m2 ixD (mVar 5) (m2 ixD (mVar 6) (mC (.int 1)))) (m2 ixD (mVar 6) (mC (.int 2)))) (m2 ixD (mVar 6) (mC (.int 3))))) (gNam 9))
  (bCons (cIf (mOrT (mB (m2 ltD (mVar 9) (mC (.int 0)))) (mB (m2 gtD (m2 addD (mVar 3) (mVar 9)) (mN lenD (aCons (mVar 1) (aNil)))))) (bCons (cAsg (m2 ixD (mVar 6) (m1 negD (mC (.int 1)))) (gNam 2))
  (bNil)) (bCons (cAsg (m2 addD (mVar 3) (mVar 9)) (gNam 3))
  (bNil)))
  (bNil))) (bNil))
  (bCons (cIf (mB (m2 eqD (m2 ixD (mVar 6) (mC (.int 0))) (mC (.str "ask")))) (bCons (cAsg (m2 ixD (mVar 5) (m2 ixD (mVar 6) (mC (.int 1)))) (gNam 10))
  (bCons (cIf (mTru (m2 ixD (mN lstD (aCons (m2 eqD (mVar 10) (m2 ixD (mVar 6) (mC (.int 3)))) (aCons (m2 ltD (mVar 10) (m2 ixD (mVar 6) (mC (.int 3)))) (aCons (m2 gtD (mVar 10) (m2 ixD (mVar 6) (mC (.int 3)))) (aNil))))) (mMt "list" indexD (mN lstD (aCons (mC (.str "same")) (aCons (mC (.str "less")) (aCons (mC (.str "more")) (aNil))))) (aCons (m2 ixD (mVar 6) (mC (.int 2))) (aNil))))) (bCons (cAsg (m2 ixD (mVar 6) (mC (.int 4))) (gNam 2))
  (bNil)) (bNil))
  (bNil))) (bNil))
  (bNil)))))))
noncomputable def b_law_told_by : MS := bCons (cAsg (mC (.int 0)) (gNam 2))
  (bCons (cAsg (mC (.int 0)) (gNam 3))
  (bCons (cAsg (mC (.int 0)) (gNam 4))
  (bCons (cAsg (mDct0) (gNam 5))
  (bCons (cWh 1000 (mB (m2 neD (m2 ixD (m2 ixD (mVar 0) (mVar 2)) (mC (.int 0))) (mC (.str "end")))) (p_law_told_by_L0))
  (bCons (cRet (mN tupD (aCons (m2 ixD (m2 ixD (mVar 0) (mVar 2)) (mC (.int 1))) (aCons (mVar 4) (aNil)))))
  (bNil))))))
noncomputable def m_law_told_by : MF := sealed (frM (mFn 11 b_law_told_by))
theorem m_law_told_by_eq : m_law_told_by = frM (mFn 11 b_law_told_by) := sealed_eq _
noncomputable def held_DEEDS : List (Str × MF) := [("do_take", m_do_take), ("do_part", m_do_part), ("do_move", m_do_move), ("do_skip", m_do_skip), ("do_ask", m_do_ask), ("do_go", m_do_go), ("do_back", m_do_back)]
noncomputable def p_run_L0 : MS := bCons (cAsg (m2 ixD (mVar 0) (mVar 3)) (gNam 4))
  (bCons (cAsg (m1 (tabD tbl_DEEDS) (m2 ixD (mVar 4) (mC (.int 0)))) (gNam 5))
  (bCons (cIf (mTru (mCallV held_DEEDS 5 2 (aCons (mVar 2) (aCons (mVar 4) (aNil))))) (bCons (cAsg (m2 ixD (mVar 4) (m1 negD (mC (.int 1)))) (gNam 3))
  (bNil)) (bCons (cAug 3 (mC (.int 1)))
  (bNil)))
  (bNil)))
noncomputable def b_run : MS := bCons (cAsg (mMake "Machine" m_Machine_M___init__ 1 (aCons (mVar 1) (aNil))) (gNam 2))
  (bCons (cAsg (mC (.int 0)) (gNam 3))
  (bCons (cWh 1000 (mB (m2 neD (m2 ixD (m2 ixD (mVar 0) (mVar 3)) (mC (.int 0))) (mC (.str "end")))) (p_run_L0))
  (bCons (cRet (mN tupD (aCons (m2 ixD (m2 ixD (mVar 0) (mVar 3)) (mC (.int 1))) (aCons (m1 (fldD ctab "seen") (mVar 2)) (aNil)))))
  (bNil))))
noncomputable def m_run : MF := sealed (frM (mFn 6 b_run))
theorem m_run_eq : m_run = frM (mFn 6 b_run) := sealed_eq _
noncomputable def p_law_drawn_rows_L0 : MS := bCons (cAsg (m2 ixD (mN lstD (aCons (mC (.str "big")) (aCons (mC (.str "small")) (aNil)))) (mCall m_law_take 2 0 [.p 0, .p 1] [] (aCons (mVar 0) (aCons (mC (.int 2)) (aNil))) (aNil))) (gNam 5))
  (bCons (cExp (mMt "list" appD (mVar 3) (aCons (mN tupD (aCons (mC (.str "take")) (aCons (mVar 4) (aCons (mCall m_law_take 2 0 [.p 0, .p 1] [] (aCons (mVar 0) (aCons (mC (.int 3)) (aNil))) (aNil)) (aCons (m2 addD (mC (.int 1)) (mCall m_law_take 2 0 [.p 0, .p 1] [] (aCons (mVar 0) (aCons (mC (.int 2)) (aNil))) (aNil))) (aCons (mVar 5) (aCons (m2 subD (mVar 2) (mC (.int 1))) (aNil)))))))) (aNil))))
  (bNil))
noncomputable def p_law_drawn_rows_L1 : MS := bCons (cExp (mMt "list" appD (mVar 3) (aCons (mCall m_law_drawn_row 4 0 [.p 0, .p 1, .p 2, .p 3] [] (aCons (mVar 0) (aCons (mVar 6) (aCons (mVar 2) (aCons (mVar 1) (aNil))))) (aNil)) (aNil))))
  (bNil)
noncomputable def b_law_drawn_rows : MS := bCons (cAsg (m2 addD (mC (.int 6)) (mCall m_law_take 2 0 [.p 0, .p 1] [] (aCons (mVar 0) (aCons (mC (.int 7)) (aNil))) (aNil))) (gNam 2))
  (bCons (cAsg (mN celD (aNil)) (gNam 3))
  (bCons (cFor (mI rng1D (aCons (mVar 1) (aNil))) (gNam 4) (p_law_drawn_rows_L0))
  (bCons (cFor (mI rng2D (aCons (mVar 1) (aCons (m2 subD (mVar 2) (mC (.int 2))) (aNil)))) (gNam 6) (p_law_drawn_rows_L1))
  (bCons (cExp (mMt "list" appD (mVar 3) (aCons (mN tupD (aCons (mC (.str "end")) (aCons (m2 eqD (mCall m_law_take 2 0 [.p 0, .p 1] [] (aCons (mVar 0) (aCons (mC (.int 2)) (aNil))) (aNil)) (mC (.int 0))) (aNil)))) (aNil))))
  (bCons (cRet (mN tupOfD (aCons (m2 addD (mVar 3) (mN lstD (aCons (mN tupD (aCons (mC (.str "end")) (aCons (m2 eqD (mCall m_law_take 2 0 [.p 0, .p 1] [] (aCons (mVar 0) (aCons (mC (.int 2)) (aNil))) (aNil)) (mC (.int 0))) (aNil)))) (aNil)))) (aNil))))
  (bNil))))))
noncomputable def m_law_drawn_rows : MF := sealed (mFn 7 b_law_drawn_rows)
theorem m_law_drawn_rows_eq : m_law_drawn_rows = mFn 7 b_law_drawn_rows := sealed_eq _
noncomputable def p_law_C0 : ME := mCall m_law_bytes 2 0 [.p 0, .p 1] [] (aCons (mVar 2) (aCons (mC (.int 10)) (aNil))) (aNil)
noncomputable def p_law_L1 : MS := bCons (cAsg (mN reprD (aCons (mN lstD (aCons (mVar 4) (aCons (mVar 5) (aNil)))) (aNil))) (gNam 6))
  (bCons (cIf (mOrT (mB (m2 neD (mN reprD (aCons (mCall m_run 2 0 [.p 0, .p 1] [] (aCons (mVar 4) (aCons (mVar 5) (aNil))) (aNil)) (aNil))) (mN reprD (aCons (mCall m_law_told_by 2 0 [.p 0, .p 1] [] (aCons (mVar 4) (aCons (mVar 5) (aNil))) (aNil)) (aNil))))) (mB (m2 neD (mN reprD (aCons (mN lstD (aCons (mVar 4) (aCons (mVar 5) (aNil)))) (aNil))) (mVar 6)))) (bCons (cRet (mC (.bl false)))
  (bNil)) (bNil))
  (bNil))
noncomputable def p_law_L2 : MS := bCons (cAsg (mCall m_law_drawn_rows 2 0 [.p 0, .p 1] [] (aCons (mVar 2) (aCons (mC (.int 3)) (aNil))) (aNil)) (gNam 4))
  (bCons (cFor (mItems (m2 addD (mLc (mI rng1D (aCons (mC (.int 12)) (aNil))) (gNam 8) (mYes) (p_law_C0) [8]) (mN lstD (aCons (mN tupD (aNil)) (aCons (mN tupD (aCons (mC (.int 0)) (aNil))) (aCons (m2 mulD (mN tupD (aCons (mC (.int 255)) (aNil))) (mC (.int 12))) (aNil))))))) (gNam 5) (p_law_L1))
  (bNil))
noncomputable def p_law_L3 : MS := bCons (cAsg (mCall m_law_pool 2 0 [.p 0, .p 1] [] (aCons (mVar 0) (aCons (mVar 1) (aNil))) (aNil)) (gNam 2))
  (bCons (cFor (mI rng1D (aCons (mC (.int 4)) (aNil))) (gNam 3) (p_law_L2))
  (bNil))
noncomputable def b_law : MS := bCons (cFor (mI rng1D (aCons (mN max2D (aCons (mC (.int 1)) (aCons (mN min2D (aCons (mC (.int 10)) (aCons (mN lenD (aCons (mVar 0) (aNil))) (aNil)))) (aNil)))) (aNil))) (gNam 1) (p_law_L3))
  (bCons (cAsg (mN tupD (aCons (mN tupD (aCons (mC (.str "take")) (aCons (mC (.int 0)) (aCons (mC (.int 0)) (aCons (mC (.int 1)) (aCons (mC (.str "big")) (aCons (mC (.int 3)) (aNil)))))))) (aCons (mN tupD (aCons (mC (.str "take")) (aCons (mC (.int 0)) (aCons (mC (.int 5)) (aCons (mC (.int 1)) (aCons (mC (.str "big")) (aCons (mC (.int 2)) (aNil)))))))) (aCons (mN tupD (aCons (mC (.str "ask")) (aCons (mC (.int 0)) (aCons (mC (.str "same")) (aCons (mC (.int 9)) (aCons (mC (.int 4)) (aNil))))))) (aCons (mN tupD (aCons (mC (.str "end")) (aCons (mC (.bl false)) (aNil)))) (aNil)))))) (gNam 7))
  (bCons (cAsg (m2 addD (mVar 7) (mN tupD (aCons (mN tupD (aCons (mC (.str "end")) (aCons (mC (.bl true)) (aNil)))) (aNil)))) (gNam 7))
  (bCons (cRet (mAnd (m2 eqD (mCall m_run 2 0 [.p 0, .p 1] [] (aCons (mVar 7) (aCons (mN tupD (aCons (mC (.int 9)) (aCons (mC (.int 1)) (aNil)))) (aNil))) (aNil)) (mN tupD (aCons (mC (.bl true)) (aCons (mC (.int 1)) (aNil))))) (m2 eqD (mCall m_run 2 0 [.p 0, .p 1] [] (aCons (mVar 7) (aCons (mN tupD (aCons (mC (.int 9)) (aCons (mC (.int 1)) (aCons (mC (.int 1)) (aCons (mC (.int 1)) (aCons (mC (.int 1)) (aCons (mC (.int 8)) (aNil)))))))) (aNil))) (aNil)) (mN tupD (aCons (mC (.bl false)) (aCons (mC (.int 6)) (aNil)))))))
  (bNil))))
noncomputable def m_law : MF := sealed (mFn 9 b_law)
theorem m_law_eq : m_law = mFn 9 b_law := sealed_eq _
/-! ### the derivations -/
section
variable {P : Program} {w : World} {K : PySem.W.Frag} {mg : Str → Option Value} {base : Heap}
theorem d_Machine_M___init__ (a_Machine_M___init__ : AtM K mg "Machine" "__init__" "Machine.__init__" st_Machine_M___init__) (ok_C : COk K ctab) (z_range : mg "range" = none) {k_BOXES : Tok} (g_BOXES : mg "BOXES" = some (.int 8 k_BOXES)) : Fmt P w K mg base 1 "Machine" "__init__" "Machine.__init__" st_Machine_M___init__ ["self", "some"] m_Machine_M___init__ :=
  mt_seal m_Machine_M___init___eq (mt_mk (k := 0) N_Machine_M___init__ a_Machine_M___init__ sc_Machine_M___init__ rfl fun f cdv A outer s H E c pas => have nd := sc_Machine_M___init__.nd
  b_cons (c_fld ok_C (s_var (i := 1)) (s_var (i := 0)))
  (b_cons (c_fld ok_C (s_lcC rfl nd (i_rng1 z_range (a_cons (s_glob (v := V.int 8) g_BOXES ⟨_, rfl⟩ fix_int) (a_nil))) (own := [("_", 2)]) (show BlkOk N_Machine_M___init__ (defScope st_Machine_M___init__) _ _ from ⟨rfl, by decide +kernel, by decide +kernel, by decide +kernel, by decide +kernel⟩) (by decide) (fun s H C cl fp => g_name nd (i := 2) rfl (by first | exact .inl rfl | exact .inr rfl)) (fun s H C cl fp => p_nil) (fun s H C cl fp => s_int)) (s_var (i := 0)))
  (b_cons (c_fld ok_C (s_int) (s_var (i := 0)))
  (b_cons (c_fld ok_C (s_int) (s_var (i := 0)))
  (b_nil)))))
theorem d_is_so (a_is_so : At K mg "is_so" st_is_so [] []) : Fm P w K mg base 1 "is_so" st_is_so [] [] ["number", "word", "worth"] m_is_so :=
  fm_seal m_is_so_eq (fm_mk (k := 0) N_is_so a_is_so sc_is_so rfl fun f cdv A outer s H E c pas => have nd := sc_is_so.nd
  b_cons (c_if (t_cmp (o_eq c.cf) q_eq (s_var (i := 1)) (s_str) rfl) (b_cons (c_ret (s_cmp (o_eq c.cf) q_eq (s_var (i := 0)) (s_var (i := 2)) rfl))
  (b_nil)) (b_nil))
  (b_cons (c_if (t_cmp (o_eq c.cf) q_eq (s_var (i := 1)) (s_str) rfl) (b_cons (c_ret (s_cmp (o_lt) q_cmpD (s_var (i := 0)) (s_var (i := 2)) rfl))
  (b_nil)) (b_nil))
  (b_cons (c_ret (s_cmp (o_gt) q_cmpD (s_var (i := 0)) (s_var (i := 2)) rfl))
  (b_nil))))
theorem d_number_in (a_number_in : At K mg "number_in" st_number_in [] [("order", V.str "big")]) : Fm P w K mg base 1 "number_in" st_number_in [] [("order", V.str "big")] ["some", "order"] m_number_in :=
  fm_seal m_number_in_eq (fm_mk (k := 0) N_number_in a_number_in sc_number_in rfl fun f cdv A outer s H E c pas => have nd := sc_number_in.nd
  b_cons (c_set (i := 2) nd (s_var (i := 0)))
  (b_cons (c_if (t_cmp (o_eq c.cf) q_eq (s_var (i := 1)) (s_str) rfl) (b_cons (c_set (i := 2) nd (s_rev (s_var (i := 0)) (s_neg (s_int))))
  (b_nil)) (b_nil))
  (b_cons (c_set (i := 3) nd (s_int))
  (b_cons (c_for pas rfl (i_seq (s_var (i := 2))) (g_name nd (i := 4) rfl (by first | exact .inl rfl | exact .inr rfl)) (b_cons (c_set (i := 3) nd (s_bin o_add q_add (s_bin o_mul q_mul (s_var (i := 3)) (s_int)) (s_var (i := 4))))
  (b_nil)))
  (b_cons (c_ret (s_var (i := 3)))
  (b_nil))))))
theorem d_put_in_box (a_put_in_box : At K mg "put_in_box" st_put_in_box [] []) (ok_C : COk K ctab) (z_max : mg "max" = none) : Fm P w K mg base 1 "put_in_box" st_put_in_box [] [] ["machine", "box", "worth", "end"] m_put_in_box :=
  fm_seal m_put_in_box_eq (fm_mk (k := 0) N_put_in_box a_put_in_box sc_put_in_box rfl fun f cdv A outer s H E c pas => have nd := sc_put_in_box.nd
  b_cons (c_put c.cf (s_var (i := 2)) (s_fld ok_C (s_var (i := 0))) (s_var (i := 1)))
  (b_cons (c_fld ok_C (s_blt (o_max2 rfl) q_max2 z_max (a_cons (s_fld ok_C (s_var (i := 0))) (a_cons (s_var (i := 3)) (a_nil)))) (s_var (i := 0)))
  (b_nil)))
theorem d_go_on (a_go_on : At K mg "go_on" st_go_on [] []) (ok_C : COk K ctab) (z_len : mg "len" = none) : Fm P w K mg base 1 "go_on" st_go_on [] [] ["machine", "more"] m_go_on :=
  fm_seal m_go_on_eq (fm_mk (k := 0) N_go_on a_go_on sc_go_on rfl fun f cdv A outer s H E c pas => have nd := sc_go_on.nd
  b_cons (c_if (t_w (w_or (t_cmp (o_lt) q_cmpD (s_var (i := 1)) (s_int) rfl) (w_or1 (t_cmp (o_gt) q_cmpD (s_bin o_add q_add (s_fld ok_C (s_var (i := 0))) (s_var (i := 1))) (s_blt o_len q_len z_len (a_cons (s_fld ok_C (s_var (i := 0))) (a_nil))) rfl)))) (b_cons (c_ret (s_bl))
  (b_nil)) (b_nil))
  (b_cons (c_fldAdd ok_C (s_var (i := 0)) (s_var (i := 1)))
  (b_cons (c_ret (s_bl))
  (b_nil))))
theorem d_do_go (a_do_go : At K mg "do_go" st_do_go [] []) : Fm P w K mg base 1 "do_go" st_do_go [] [] ["_machine", "_row"] m_do_go :=
  fm_seal m_do_go_eq (fm_mk (k := 0) N_do_go a_do_go sc_do_go rfl fun f cdv A outer s H E c pas => have nd := sc_do_go.nd
  b_cons (c_ret (s_bl))
  (b_nil))
theorem d_do_back (a_do_back : At K mg "do_back" st_do_back [] []) (ok_C : COk K ctab) : Fm P w K mg base 1 "do_back" st_do_back [] [] ["machine", "_row"] m_do_back :=
  fm_seal m_do_back_eq (fm_mk (k := 0) N_do_back a_do_back sc_do_back rfl fun f cdv A outer s H E c pas => have nd := sc_do_back.nd
  b_cons (c_fld ok_C (s_int) (s_var (i := 0)))
  (b_cons (c_ret (s_bl))
  (b_nil)))
theorem d__law_pool (a__law_pool : At K mg "_law_pool" st__law_pool [] []) (z_len : mg "len" = none) (z_abs : mg "abs" = none) (z_int : mg "int" = none) : Fm P w K mg base 1 "_law_pool" st__law_pool [] [] ["_law_script", "_law_k"] m_law_pool :=
  fm_seal m_law_pool_eq (fm_mk (k := 0) N__law_pool a__law_pool sc__law_pool rfl fun f cdv A outer s H E c pas => have nd := sc__law_pool.nd
  b_cons (c_set (i := 2) nd (s_int))
  (b_cons (c_if (t_cmp (o_lt) q_cmpD (s_var (i := 1)) (s_blt o_len q_len z_len (a_cons (s_var (i := 0)) (a_nil))) rfl) (b_cons (c_set (i := 2) nd (s_ix c.cf (s_var (i := 0)) (s_var (i := 1))))
  (b_nil)) (b_nil))
  (b_cons (c_set (i := 3) nd (s_blt o_abs q_abs z_abs (a_cons (s_var (i := 2)) (a_nil))))
  (b_cons (c_set (i := 4) nd (s_bin o_mod q_int2 (s_bin o_mul q_mul (s_bin o_add q_add (s_bin o_add q_add (s_bin o_mod q_int2 (s_var (i := 3)) (s_int)) (s_bin o_mul q_mul (s_int) (s_var (i := 1)))) (s_int)) (s_int)) (s_int)))
  (b_cons (c_ret (s_cel (a_cons (s_bin o_mul q_mul (s_var (i := 3)) (s_bty o_intD q_intD z_int (a_cons (s_cmp (o_ge) q_cmpD (s_var (i := 3)) (s_bin o_pow q_int2 (s_int) (s_int)) rfl) (a_nil)))) (a_cons (s_var (i := 4)) (a_nil)))))
  (b_nil))))))
theorem d__law_take (a__law_take : At K mg "_law_take" st__law_take [] []) : Fm P w K mg base 1 "_law_take" st__law_take [] [] ["_law_pool_here", "_law_many"] m_law_take :=
  fm_seal m_law_take_eq (fm_mk (k := 0) N__law_take a__law_take sc__law_take rfl fun f cdv A outer s H E c pas => have nd := sc__law_take.nd
  b_cons (c_if (t_cmp (o_gt) q_cmpD (s_ix c.cf (s_var (i := 0)) (s_int)) (s_int) rfl) (b_cons (c_set (i := 2) nd (s_bin o_mod q_int2 (s_ix c.cf (s_var (i := 0)) (s_int)) (s_var (i := 1))))
  (b_cons (c_put c.cf (s_bin o_fdiv q_int2 (s_ix c.cf (s_var (i := 0)) (s_int)) (s_var (i := 1))) (s_var (i := 0)) (s_int))
  (b_cons (c_ret (s_var (i := 2)))
  (b_nil)))) (b_nil))
  (b_cons (c_put c.cf (s_bin o_mod q_int2 (s_bin o_add q_add (s_bin o_mul q_mul (s_ix c.cf (s_var (i := 0)) (s_int)) (s_int)) (s_int)) (s_int)) (s_var (i := 0)) (s_int))
  (b_cons (c_ret (s_bin o_mod q_int2 (s_bin o_fdiv q_int2 (s_bin o_mod q_int2 (s_bin o_mul q_mul (s_ix c.cf (s_var (i := 0)) (s_int)) (s_ix c.cf (s_var (i := 0)) (s_int))) (s_int)) (s_int)) (s_var (i := 1))))
  (b_nil))))
theorem d__law_worth (a__law_worth : At K mg "_law_worth" st__law_worth [] []) (z_int : mg "int" = none) : Fm P w K mg base 1 "_law_worth" st__law_worth [] [] ["_law_some", "_law_order"] m_law_worth :=
  fm_seal m_law_worth_eq (fm_mk (k := 0) N__law_worth a__law_worth sc__law_worth rfl fun f cdv A outer s H E c pas => have nd := sc__law_worth.nd
  b_cons (c_set (i := 2) nd (s_int))
  (b_cons (c_for pas rfl (i_seq (s_ix c.cf (s_lst (a_cons (s_rev (s_var (i := 0)) (s_neg (s_int))) (a_cons (s_var (i := 0)) (a_nil)))) (s_bty o_intD q_intD z_int (a_cons (s_cmp (o_eq c.cf) q_eq (s_var (i := 1)) (s_str) rfl) (a_nil))))) (g_name nd (i := 3) rfl (by first | exact .inl rfl | exact .inr rfl)) (b_cons (c_set (i := 2) nd (s_bin o_add q_add (s_bin o_mul q_mul (s_var (i := 2)) (s_int)) (s_var (i := 3))))
  (b_nil)))
  (b_cons (c_ret (s_var (i := 2)))
  (b_nil))))
theorem d_do_take (a_do_take : At K mg "do_take" st_do_take [] []) (ok_C : COk K ctab) (z_len : mg "len" = none) (F_put_in_box : Fm P w K mg base 1 "put_in_box" st_put_in_box [] [] ["machine", "box", "worth", "end"] m_put_in_box) (F_number_in : Fm P w K mg base 1 "number_in" st_number_in [] [("order", V.str "big")] ["some", "order"] m_number_in) : Fm P w K mg base 2 "do_take" st_do_take [] [] ["machine", "row"] m_do_take :=
  fm_seal m_do_take_eq (fm_mk (k := 1) N_do_take a_do_take sc_do_take rfl fun f cdv A outer s H E c pas => have nd := sc_do_take.nd
  b_cons (c_asg (s_var (i := 1)) (g_tup rfl (g_cons (g_name nd (i := 2) rfl (by first | exact .inl rfl | exact .inr rfl)) (g_cons (g_name nd (i := 3) rfl (by first | exact .inl rfl | exact .inr rfl)) (g_cons (g_name nd (i := 4) rfl (by first | exact .inl rfl | exact .inr rfl)) (g_cons (g_name nd (i := 5) rfl (by first | exact .inl rfl | exact .inr rfl)) (g_cons (g_name nd (i := 6) rfl (by first | exact .inl rfl | exact .inr rfl)) (g_cons (g_name nd (i := 2) rfl (by first | exact .inl rfl | exact .inr rfl)) (g_nil)))))))))
  (b_cons (c_set (i := 7) nd (s_bin o_add q_add (s_fld ok_C (s_var (i := 0))) (s_var (i := 4))))
  (b_cons (c_set (i := 8) nd (s_bin o_add q_add (s_var (i := 7)) (s_var (i := 5))))
  (b_cons (c_if (t_cmp (o_gt) q_cmpD (s_var (i := 8)) (s_blt o_len q_len z_len (a_cons (s_fld ok_C (s_var (i := 0))) (a_nil))) rfl) (b_cons (c_ret (s_bl))
  (b_nil)) (b_nil))
  (b_cons (c_exp (s_call (cs := [.p 0, .p 1, .p 2, .p 3]) F_put_in_box c (by decide) (fun _ _ F => bd_all F fun kV doc pm an cdv ct us ws h1 h2 => by match us, h1, ws, h2 with | [u0, u1, u2, u3], _, [], _ => exact ⟨[u0, u1, u2, u3], rfl, rfl⟩) fixS_nil (a_cons (s_var (i := 0)) (a_cons (s_var (i := 3)) (a_cons (s_callK (cs := [.p 0, .k 0]) (ks := ["order"]) F_number_in c (by decide) (fun _ _ F => bd_all F fun kV doc pm an cdv ct us ws h1 h2 => by match us, h1, ws, h2 with | [u0], _, [w0], _ => exact ⟨[u0, w0], rfl, rfl⟩) fixS_nil (a_cons (s_sl (s_fld ok_C (s_var (i := 0))) (p_some (s_var (i := 7))) (p_some (s_var (i := 8)))) (a_nil)) (k_cons (s_var (i := 6)) (k_nil))) (a_cons (s_var (i := 8)) (a_nil)))))))
  (b_cons (c_ret (s_bl))
  (b_nil)))))))
theorem d_do_part (a_do_part : At K mg "do_part" st_do_part [] []) (ok_C : COk K ctab) (z_len : mg "len" = none) (F_put_in_box : Fm P w K mg base 1 "put_in_box" st_put_in_box [] [] ["machine", "box", "worth", "end"] m_put_in_box) : Fm P w K mg base 2 "do_part" st_do_part [] [] ["machine", "row"] m_do_part :=
  fm_seal m_do_part_eq (fm_mk (k := 1) N_do_part a_do_part sc_do_part rfl fun f cdv A outer s H E c pas => have nd := sc_do_part.nd
  b_cons (c_asg (s_var (i := 1)) (g_tup rfl (g_cons (g_name nd (i := 2) rfl (by first | exact .inl rfl | exact .inr rfl)) (g_cons (g_name nd (i := 3) rfl (by first | exact .inl rfl | exact .inr rfl)) (g_cons (g_name nd (i := 4) rfl (by first | exact .inl rfl | exact .inr rfl)) (g_cons (g_name nd (i := 5) rfl (by first | exact .inl rfl | exact .inr rfl)) (g_cons (g_name nd (i := 6) rfl (by first | exact .inl rfl | exact .inr rfl)) (g_cons (g_name nd (i := 2) rfl (by first | exact .inl rfl | exact .inr rfl)) (g_nil)))))))))
  (b_cons (c_set (i := 7) nd (s_bin o_add q_add (s_fld ok_C (s_var (i := 0))) (s_var (i := 4))))
  (b_cons (c_if (t_cmp (o_ge) q_cmpD (s_var (i := 7)) (s_blt o_len q_len z_len (a_cons (s_fld ok_C (s_var (i := 0))) (a_nil))) rfl) (b_cons (c_ret (s_bl))
  (b_nil)) (b_nil))
  (b_cons (c_exp (s_call (cs := [.p 0, .p 1, .p 2, .p 3]) F_put_in_box c (by decide) (fun _ _ F => bd_all F fun kV doc pm an cdv ct us ws h1 h2 => by match us, h1, ws, h2 with | [u0, u1, u2, u3], _, [], _ => exact ⟨[u0, u1, u2, u3], rfl, rfl⟩) fixS_nil (a_cons (s_var (i := 0)) (a_cons (s_var (i := 3)) (a_cons (s_bin o_and q_int2 (s_bin o_shr q_int2 (s_ix c.cf (s_fld ok_C (s_var (i := 0))) (s_var (i := 7))) (s_var (i := 5))) (s_bin o_sub q_int2 (s_bin o_shl q_int2 (s_int) (s_var (i := 6))) (s_int))) (a_cons (s_bin o_add q_add (s_var (i := 7)) (s_int)) (a_nil)))))))
  (b_cons (c_ret (s_bl))
  (b_nil))))))
theorem d_do_move (a_do_move : At K mg "do_move" st_do_move [] []) (F_go_on : Fm P w K mg base 1 "go_on" st_go_on [] [] ["machine", "more"] m_go_on) : Fm P w K mg base 2 "do_move" st_do_move [] [] ["machine", "row"] m_do_move :=
  fm_seal m_do_move_eq (fm_mk (k := 1) N_do_move a_do_move sc_do_move rfl fun f cdv A outer s H E c pas => have nd := sc_do_move.nd
  b_cons (c_ret (s_call (cs := [.p 0, .p 1]) F_go_on c (by decide) (fun _ _ F => bd_all F fun kV doc pm an cdv ct us ws h1 h2 => by match us, h1, ws, h2 with | [u0, u1], _, [], _ => exact ⟨[u0, u1], rfl, rfl⟩) fixS_nil (a_cons (s_var (i := 0)) (a_cons (s_ix c.cf (s_var (i := 1)) (s_int)) (a_nil)))))
  (b_nil))
theorem d_do_skip (a_do_skip : At K mg "do_skip" st_do_skip [] []) (ok_C : COk K ctab) (F_go_on : Fm P w K mg base 1 "go_on" st_go_on [] [] ["machine", "more"] m_go_on) : Fm P w K mg base 2 "do_skip" st_do_skip [] [] ["machine", "row"] m_do_skip :=
  fm_seal m_do_skip_eq (fm_mk (k := 1) N_do_skip a_do_skip sc_do_skip rfl fun f cdv A outer s H E c pas => have nd := sc_do_skip.nd
  b_cons (c_asg (s_var (i := 1)) (g_tup rfl (g_cons (g_name nd (i := 2) rfl (by first | exact .inl rfl | exact .inr rfl)) (g_cons (g_name nd (i := 3) rfl (by first | exact .inl rfl | exact .inr rfl)) (g_cons (g_name nd (i := 4) rfl (by first | exact .inl rfl | exact .inr rfl)) (g_cons (g_name nd (i := 5) rfl (by first | exact .inl rfl | exact .inr rfl)) (g_cons (g_name nd (i := 2) rfl (by first | exact .inl rfl | exact .inr rfl)) (g_nil))))))))
  (b_cons (c_ret (s_call (cs := [.p 0, .p 1]) F_go_on c (by decide) (fun _ _ F => bd_all F fun kV doc pm an cdv ct us ws h1 h2 => by match us, h1, ws, h2 with | [u0, u1], _, [], _ => exact ⟨[u0, u1], rfl, rfl⟩) fixS_nil (a_cons (s_var (i := 0)) (a_cons (s_bin o_add q_add (s_bin o_mul q_mul (s_var (i := 4)) (s_ix c.cf (s_fld ok_C (s_var (i := 0))) (s_var (i := 3)))) (s_var (i := 5))) (a_nil)))))
  (b_nil)))
theorem d_do_ask (a_do_ask : At K mg "do_ask" st_do_ask [] []) (ok_C : COk K ctab) (F_is_so : Fm P w K mg base 1 "is_so" st_is_so [] [] ["number", "word", "worth"] m_is_so) : Fm P w K mg base 2 "do_ask" st_do_ask [] [] ["machine", "row"] m_do_ask :=
  fm_seal m_do_ask_eq (fm_mk (k := 1) N_do_ask a_do_ask sc_do_ask rfl fun f cdv A outer s H E c pas => have nd := sc_do_ask.nd
  b_cons (c_asg (s_var (i := 1)) (g_tup rfl (g_cons (g_name nd (i := 2) rfl (by first | exact .inl rfl | exact .inr rfl)) (g_cons (g_name nd (i := 3) rfl (by first | exact .inl rfl | exact .inr rfl)) (g_cons (g_name nd (i := 4) rfl (by first | exact .inl rfl | exact .inr rfl)) (g_cons (g_name nd (i := 5) rfl (by first | exact .inl rfl | exact .inr rfl)) (g_cons (g_name nd (i := 2) rfl (by first | exact .inl rfl | exact .inr rfl)) (g_nil))))))))
  (b_cons (c_ret (s_call (cs := [.p 0, .p 1, .p 2]) F_is_so c (by decide) (fun _ _ F => bd_all F fun kV doc pm an cdv ct us ws h1 h2 => by match us, h1, ws, h2 with | [u0, u1, u2], _, [], _ => exact ⟨[u0, u1, u2], rfl, rfl⟩) fixS_nil (a_cons (s_ix c.cf (s_fld ok_C (s_var (i := 0))) (s_var (i := 3))) (a_cons (s_var (i := 4)) (a_cons (s_var (i := 5)) (a_nil))))))
  (b_nil)))
theorem d__law_bytes (a__law_bytes : At K mg "_law_bytes" st__law_bytes [] []) (z_range : mg "range" = none) (z_tuple : mg "tuple" = none) (F__law_take : Fm P w K mg base 1 "_law_take" st__law_take [] [] ["_law_pool_here", "_law_many"] m_law_take) : Fm P w K mg base 2 "_law_bytes" st__law_bytes [] [] ["_law_pool_here", "_law_many"] m_law_bytes :=
  fm_seal m_law_bytes_eq (fm_mk (k := 1) N__law_bytes a__law_bytes sc__law_bytes rfl fun f cdv A outer s H E c pas => have nd := sc__law_bytes.nd
  b_cons (c_set (i := 2) nd (s_cel (a_nil)))
  (b_cons (c_for pas rfl (i_rng1 z_range (a_cons (s_call (cs := [.p 0, .p 1]) F__law_take c (by decide) (fun _ _ F => bd_all F fun kV doc pm an cdv ct us ws h1 h2 => by match us, h1, ws, h2 with | [u0, u1], _, [], _ => exact ⟨[u0, u1], rfl, rfl⟩) fixS_nil (a_cons (s_var (i := 0)) (a_cons (s_bin o_add q_add (s_var (i := 1)) (s_int)) (a_nil)))) (a_nil))) (g_name nd (i := 3) rfl (by first | exact .inl rfl | exact .inr rfl)) (b_cons (c_exp (s_app (s_var (i := 2)) (a_cons (s_ix c.cf (s_lst (a_cons (s_int) (a_cons (s_int) (a_cons (s_int) (a_cons (s_int) (a_cons (s_int) (a_cons (s_int) (a_cons (s_int) (a_cons (s_call (cs := [.p 0, .p 1]) F__law_take c (by decide) (fun _ _ F => bd_all F fun kV doc pm an cdv ct us ws h1 h2 => by match us, h1, ws, h2 with | [u0, u1], _, [], _ => exact ⟨[u0, u1], rfl, rfl⟩) fixS_nil (a_cons (s_var (i := 0)) (a_cons (s_int) (a_nil)))) (a_nil)))))))))) (s_call (cs := [.p 0, .p 1]) F__law_take c (by decide) (fun _ _ F => bd_all F fun kV doc pm an cdv ct us ws h1 h2 => by match us, h1, ws, h2 with | [u0, u1], _, [], _ => exact ⟨[u0, u1], rfl, rfl⟩) fixS_nil (a_cons (s_var (i := 0)) (a_cons (s_int) (a_nil))))) (a_nil))))
  (b_nil)))
  (b_cons (c_ret (s_bty o_tupOf q_tupOf z_tuple (a_cons (s_var (i := 2)) (a_nil))))
  (b_nil))))
theorem d__law_drawn_row (a__law_drawn_row : At K mg "_law_drawn_row" st__law_drawn_row [] []) (F__law_take : Fm P w K mg base 1 "_law_take" st__law_take [] [] ["_law_pool_here", "_law_many"] m_law_take) : Fm P w K mg base 2 "_law_drawn_row" st__law_drawn_row [] [] ["_law_pool_here", "_law_number", "_law_many", "_law_boxes"] m_law_drawn_row :=
  fm_seal m_law_drawn_row_eq (fm_mk (k := 1) N__law_drawn_row a__law_drawn_row sc__law_drawn_row rfl fun f cdv A outer s H E c pas => have nd := sc__law_drawn_row.nd
  b_cons (c_set (i := 4) nd (s_bin o_add q_add (s_bin o_add q_add (s_var (i := 1)) (s_int)) (s_call (cs := [.p 0, .p 1]) F__law_take c (by decide) (fun _ _ F => bd_all F fun kV doc pm an cdv ct us ws h1 h2 => by match us, h1, ws, h2 with | [u0, u1], _, [], _ => exact ⟨[u0, u1], rfl, rfl⟩) fixS_nil (a_cons (s_var (i := 0)) (a_cons (s_bin o_sub q_int2 (s_bin o_sub q_int2 (s_var (i := 2)) (s_int)) (s_var (i := 1))) (a_nil))))))
  (b_cons (c_set (i := 5) nd (s_call (cs := [.p 0, .p 1]) F__law_take c (by decide) (fun _ _ F => bd_all F fun kV doc pm an cdv ct us ws h1 h2 => by match us, h1, ws, h2 with | [u0, u1], _, [], _ => exact ⟨[u0, u1], rfl, rfl⟩) fixS_nil (a_cons (s_var (i := 0)) (a_cons (s_var (i := 3)) (a_nil)))))
  (b_cons (c_set (i := 6) nd (s_call (cs := [.p 0, .p 1]) F__law_take c (by decide) (fun _ _ F => bd_all F fun kV doc pm an cdv ct us ws h1 h2 => by match us, h1, ws, h2 with | [u0, u1], _, [], _ => exact ⟨[u0, u1], rfl, rfl⟩) fixS_nil (a_cons (s_var (i := 0)) (a_cons (s_int) (a_nil)))))
  (b_cons (c_if (t_cmp (o_eq c.cf) q_eq (s_var (i := 6)) (s_int) rfl) (b_cons (c_ret (s_tup (a_cons (s_str) (a_cons (s_var (i := 5)) (a_cons (s_call (cs := [.p 0, .p 1]) F__law_take c (by decide) (fun _ _ F => bd_all F fun kV doc pm an cdv ct us ws h1 h2 => by match us, h1, ws, h2 with | [u0, u1], _, [], _ => exact ⟨[u0, u1], rfl, rfl⟩) fixS_nil (a_cons (s_var (i := 0)) (a_cons (s_int) (a_nil)))) (a_cons (s_bin o_add q_add (s_int) (s_call (cs := [.p 0, .p 1]) F__law_take c (by decide) (fun _ _ F => bd_all F fun kV doc pm an cdv ct us ws h1 h2 => by match us, h1, ws, h2 with | [u0, u1], _, [], _ => exact ⟨[u0, u1], rfl, rfl⟩) fixS_nil (a_cons (s_var (i := 0)) (a_cons (s_int) (a_nil))))) (a_cons (s_ix c.cf (s_lst (a_cons (s_str) (a_cons (s_str) (a_nil)))) (s_call (cs := [.p 0, .p 1]) F__law_take c (by decide) (fun _ _ F => bd_all F fun kV doc pm an cdv ct us ws h1 h2 => by match us, h1, ws, h2 with | [u0, u1], _, [], _ => exact ⟨[u0, u1], rfl, rfl⟩) fixS_nil (a_cons (s_var (i := 0)) (a_cons (s_int) (a_nil))))) (a_cons (s_var (i := 4)) (a_nil)))))))))
  (b_nil)) (b_nil))
  (b_cons (c_if (t_cmp (o_eq c.cf) q_eq (s_var (i := 6)) (s_int) rfl) (b_cons (c_ret (s_tup (a_cons (s_str) (a_cons (s_var (i := 5)) (a_cons (s_call (cs := [.p 0, .p 1]) F__law_take c (by decide) (fun _ _ F => bd_all F fun kV doc pm an cdv ct us ws h1 h2 => by match us, h1, ws, h2 with | [u0, u1], _, [], _ => exact ⟨[u0, u1], rfl, rfl⟩) fixS_nil (a_cons (s_var (i := 0)) (a_cons (s_int) (a_nil)))) (a_cons (s_call (cs := [.p 0, .p 1]) F__law_take c (by decide) (fun _ _ F => bd_all F fun kV doc pm an cdv ct us ws h1 h2 => by match us, h1, ws, h2 with | [u0, u1], _, [], _ => exact ⟨[u0, u1], rfl, rfl⟩) fixS_nil (a_cons (s_var (i := 0)) (a_cons (s_int) (a_nil)))) (a_cons (s_bin o_add q_add (s_int) (s_call (cs := [.p 0, .p 1]) F__law_take c (by decide) (fun _ _ F => bd_all F fun kV doc pm an cdv ct us ws h1 h2 => by match us, h1, ws, h2 with | [u0, u1], _, [], _ => exact ⟨[u0, u1], rfl, rfl⟩) fixS_nil (a_cons (s_var (i := 0)) (a_cons (s_int) (a_nil))))) (a_cons (s_var (i := 4)) (a_nil)))))))))
  (b_nil)) (b_nil))
  (b_cons (c_if (t_cmp (o_eq c.cf) q_eq (s_var (i := 6)) (s_int) rfl) (b_cons (c_ret (s_tup (a_cons (s_str) (a_cons (s_call (cs := [.p 0, .p 1]) F__law_take c (by decide) (fun _ _ F => bd_all F fun kV doc pm an cdv ct us ws h1 h2 => by match us, h1, ws, h2 with | [u0, u1], _, [], _ => exact ⟨[u0, u1], rfl, rfl⟩) fixS_nil (a_cons (s_var (i := 0)) (a_cons (s_int) (a_nil)))) (a_cons (s_var (i := 4)) (a_nil))))))
  (b_nil)) (b_nil))
  (b_cons (c_if (t_cmp (o_eq c.cf) q_eq (s_var (i := 6)) (s_int) rfl) (b_cons (c_ret (s_tup (a_cons (s_str) (a_cons (s_var (i := 5)) (a_cons (s_bin o_add q_add (s_int) (s_call (cs := [.p 0, .p 1]) F__law_take c (by decide) (fun _ _ F => bd_all F fun kV doc pm an cdv ct us ws h1 h2 => by match us, h1, ws, h2 with | [u0, u1], _, [], _ => exact ⟨[u0, u1], rfl, rfl⟩) fixS_nil (a_cons (s_var (i := 0)) (a_cons (s_int) (a_nil))))) (a_cons (s_bin o_sub q_int2 (s_call (cs := [.p 0, .p 1]) F__law_take c (by decide) (fun _ _ F => bd_all F fun kV doc pm an cdv ct us ws h1 h2 => by match us, h1, ws, h2 with | [u0, u1], _, [], _ => exact ⟨[u0, u1], rfl, rfl⟩) fixS_nil (a_cons (s_var (i := 0)) (a_cons (s_int) (a_nil)))) (s_int)) (a_cons (s_var (i := 4)) (a_nil))))))))
  (b_nil)) (b_nil))
  (b_cons (c_if (t_cmp (o_eq c.cf) q_eq (s_var (i := 6)) (s_int) rfl) (b_cons (c_ret (s_tup (a_cons (s_str) (a_cons (s_var (i := 4)) (a_nil)))))
  (b_nil)) (b_nil))
  (b_cons (c_if (t_cmp (o_eq c.cf) q_eq (s_var (i := 6)) (s_int) rfl) (b_cons (c_ret (s_tup (a_cons (s_str) (a_nil))))
  (b_nil)) (b_nil))
  (b_cons (c_if (t_w (w_and (t_cmp (o_eq c.cf) q_eq (s_var (i := 6)) (s_int) rfl) (w_and1 (t_cmp (o_eq c.cf) q_eq (s_call (cs := [.p 0, .p 1]) F__law_take c (by decide) (fun _ _ F => bd_all F fun kV doc pm an cdv ct us ws h1 h2 => by match us, h1, ws, h2 with | [u0, u1], _, [], _ => exact ⟨[u0, u1], rfl, rfl⟩) fixS_nil (a_cons (s_var (i := 0)) (a_cons (s_int) (a_nil)))) (s_int) rfl)))) (b_cons (c_ret (s_tup (a_cons (s_str) (a_cons (s_cmp (o_eq c.cf) q_eq (s_call (cs := [.p 0, .p 1]) F__law_take c (by decide) (fun _ _ F => bd_all F fun kV doc pm an cdv ct us ws h1 h2 => by match us, h1, ws, h2 with | [u0, u1], _, [], _ => exact ⟨[u0, u1], rfl, rfl⟩) fixS_nil (a_cons (s_var (i := 0)) (a_cons (s_int) (a_nil)))) (s_int) rfl) (a_nil)))))
  (b_nil)) (b_nil))
  (b_cons (c_ret (s_tup (a_cons (s_str) (a_cons (s_var (i := 5)) (a_cons (s_ix c.cf (s_lst (a_cons (s_str) (a_cons (s_str) (a_cons (s_str) (a_nil))))) (s_call (cs := [.p 0, .p 1]) F__law_take c (by decide) (fun _ _ F => bd_all F fun kV doc pm an cdv ct us ws h1 h2 => by match us, h1, ws, h2 with | [u0, u1], _, [], _ => exact ⟨[u0, u1], rfl, rfl⟩) fixS_nil (a_cons (s_var (i := 0)) (a_cons (s_int) (a_nil))))) (a_cons (s_ix c.cf (s_lst (a_cons (s_int) (a_cons (s_int) (a_cons (s_int) (a_cons (s_int) (a_cons (s_int) (a_cons (s_int) (a_nil)))))))) (s_call (cs := [.p 0, .p 1]) F__law_take c (by decide) (fun _ _ F => bd_all F fun kV doc pm an cdv ct us ws h1 h2 => by match us, h1, ws, h2 with | [u0, u1], _, [], _ => exact ⟨[u0, u1], rfl, rfl⟩) fixS_nil (a_cons (s_var (i := 0)) (a_cons (s_int) (a_nil))))) (a_cons (s_var (i := 4)) (a_nil))))))))
  (b_nil))))))))))))
theorem d__law_told_by (a__law_told_by : At K mg "_law_told_by" st__law_told_by [] []) (z_int : mg "int" = none) (z_len : mg "len" = none) (z_max : mg "max" = none) (F__law_worth : Fm P w K mg base 1 "_law_worth" st__law_worth [] [] ["_law_some", "_law_order"] m_law_worth) : Fm P w K mg base 2 "_law_told_by" st__law_told_by [] [] ["_law_rows", "_law_some"] m_law_told_by :=
  fm_seal m_law_told_by_eq (fm_fr (fm_mk (k := 1) N__law_told_by a__law_told_by sc__law_told_by rfl fun f cdv A outer s H E c pas => have nd := sc__law_told_by.nd
  b_cons (c_set (i := 2) nd (s_int))
  (b_cons (c_set (i := 3) nd (s_int))
  (b_cons (c_set (i := 4) nd (s_int))
  (b_cons (c_set (i := 5) nd (s_dct0))
  (b_cons (c_wh 1000 pas (t_cmp (o_ne c.cf) q_ne (s_ix c.cf (s_ix c.cf (s_var (i := 0)) (s_var (i := 2))) (s_int)) (s_str) rfl) (b_cons (c_set (i := 6) nd (s_ix c.cf (s_var (i := 0)) (s_var (i := 2))))
  (b_cons (c_set (i := 2) nd (s_bin o_add q_add (s_var (i := 2)) (s_int)))
  (b_cons (c_if (t_cmp (o_eq c.cf) q_eq (s_ix c.cf (s_var (i := 6)) (s_int)) (s_str) rfl) (b_cons (c_set (i := 2) nd (s_ix c.cf (s_var (i := 6)) (s_int)))
  (b_nil)) (b_nil))
  (b_cons (c_if (t_cmp (o_eq c.cf) q_eq (s_ix c.cf (s_var (i := 6)) (s_int)) (s_str) rfl) (b_cons (c_set (i := 3) nd (s_int))
  (b_nil)) (b_nil))
  (b_cons (c_if (t_cmp (o_in c.cf) q_in (s_ix c.cf (s_var (i := 6)) (s_int)) (s_tup (a_cons (s_str) (a_cons (s_str) (a_nil)))) rfl) (b_cons (c_set (i := 7) nd (s_bin o_add q_add (s_var (i := 3)) (s_ix c.cf (s_var (i := 6)) (s_int))))
  (b_cons (c_set (i := 8) nd (s_bin o_add q_add (s_var (i := 7)) (s_ix c.cf (s_lst (a_cons (s_int) (a_cons (s_ix c.cf (s_var (i := 6)) (s_int)) (a_nil)))) (s_bty o_intD q_intD z_int (a_cons (s_cmp (o_eq c.cf) q_eq (s_ix c.cf (s_var (i := 6)) (s_int)) (s_str) rfl) (a_nil))))))
  (b_cons (c_if (t_cmp (o_gt) q_cmpD (s_var (i := 8)) (s_blt o_len q_len z_len (a_cons (s_var (i := 1)) (a_nil))) rfl) (b_cons (c_set (i := 2) nd (s_ix c.cf (s_var (i := 6)) (s_int)))
  (b_nil)) (b_cons (c_if (t_cmp (o_eq c.cf) q_eq (s_ix c.cf (s_var (i := 6)) (s_int)) (s_str) rfl) (b_cons (c_put c.cf (s_call (cs := [.p 0, .p 1]) F__law_worth c (by decide) (fun _ _ F => bd_all F fun kV doc pm an cdv ct us ws h1 h2 => by match us, h1, ws, h2 with | [u0, u1], _, [], _ => exact ⟨[u0, u1], rfl, rfl⟩) fixS_nil (a_cons (s_sl (s_var (i := 1)) (p_some (s_var (i := 7))) (p_some (s_var (i := 8)))) (a_cons (s_ix c.cf (s_var (i := 6)) (s_int)) (a_nil)))) (s_var (i := 5)) (s_ix c.cf (s_var (i := 6)) (s_int)))
  (b_cons (c_set (i := 4) nd (s_blt (o_max2 rfl) q_max2 z_max (a_cons (s_var (i := 4)) (a_cons (s_var (i := 8)) (a_nil)))))
  (b_nil))) (b_cons (c_put c.cf (s_bin o_mod q_int2 (s_bin o_shr q_int2 (s_ix c.cf (s_var (i := 1)) (s_var (i := 7))) (s_ix c.cf (s_var (i := 6)) (s_int))) (s_bin o_shl q_int2 (s_int) (s_ix c.cf (s_var (i := 6)) (s_int)))) (s_var (i := 5)) (s_ix c.cf (s_var (i := 6)) (s_int)))
  (b_cons (c_set (i := 4) nd (s_blt (o_max2 rfl) q_max2 z_max (a_cons (s_var (i := 4)) (a_cons (s_var (i := 8)) (a_nil)))))
  (b_nil))))
  (b_nil)))
  (b_nil)))) (b_nil))
  (b_cons (c_if (t_cmp (o_in c.cf) q_in (s_ix c.cf (s_var (i := 6)) (s_int)) (s_tup (a_cons (s_str) (a_cons (s_str) (a_nil)))) rfl) (b_cons (c_set (i := 9) nd (s_if (t_cmp (o_eq c.cf) q_eq (s_ix c.cf (s_var (i := 6)) (s_int)) (s_str) rfl) (s_ix c.cf (s_var (i := 6)) (s_int)) (s_bin o_add q_add (s_bin o_mul q_mul (s_ix c.cf (s_var (i := 5)) (s_ix c.cf (s_var (i := 6)) (s_int))) (s_ix c.cf (s_var (i := 6)) (s_int))) (s_ix c.cf (s_var (i := 6)) (s_int)))))
  (b_cons (c_if (t_w (w_or (t_cmp (o_lt) q_cmpD (s_var (i := 9)) (s_int) rfl) (w_or1 (t_cmp (o_gt) q_cmpD (s_bin o_add q_add (s_var (i := 3)) (s_var (i := 9))) (s_blt o_len q_len z_len (a_cons (s_var (i := 1)) (a_nil))) rfl)))) (b_cons (c_set (i := 2) nd (s_ix c.cf (s_var (i := 6)) (s_neg (s_int))))
  (b_nil)) (b_cons (c_set (i := 3) nd (s_bin o_add q_add (s_var (i := 3)) (s_var (i := 9))))
  (b_nil)))
  (b_nil))) (b_nil))
  (b_cons (c_if (t_cmp (o_eq c.cf) q_eq (s_ix c.cf (s_var (i := 6)) (s_int)) (s_str) rfl) (b_cons (c_set (i := 10) nd (s_ix c.cf (s_var (i := 5)) (s_ix c.cf (s_var (i := 6)) (s_int))))
  (b_cons (c_if (t_tru (s_ix c.cf (s_lst (a_cons (s_cmp (o_eq c.cf) q_eq (s_var (i := 10)) (s_ix c.cf (s_var (i := 6)) (s_int)) rfl) (a_cons (s_cmp (o_lt) q_cmpD (s_var (i := 10)) (s_ix c.cf (s_var (i := 6)) (s_int)) rfl) (a_cons (s_cmp (o_gt) q_cmpD (s_var (i := 10)) (s_ix c.cf (s_var (i := 6)) (s_int)) rfl) (a_nil))))) (s_mt PySem.F.plainAttrs_list PySem.F.slot_list_index PySem.F.type_list_index o_index q_index (s_lst (a_cons (s_str) (a_cons (s_str) (a_cons (s_str) (a_nil))))) (a_cons (s_ix c.cf (s_var (i := 6)) (s_int)) (a_nil))))) (b_cons (c_set (i := 2) nd (s_ix c.cf (s_var (i := 6)) (s_int)))
  (b_nil)) (b_nil))
  (b_nil))) (b_nil))
  (b_nil)))))))))
  (b_cons (c_ret (s_tup (a_cons (s_ix c.cf (s_ix c.cf (s_var (i := 0)) (s_var (i := 2))) (s_int)) (a_cons (s_var (i := 4)) (a_nil)))))
  (b_nil))))))))
theorem d_run (a_run : At K mg "run" st_run [] []) (mk_Machine : ∀ C, OwnC K mg "Machine" C → PySem.W.makesIn K C = true ∧ PySem.W.keepIn K (.ref C) = true) {p_DEEDS : Addr} (g_DEEDS : mg "DEEDS" = some (.ref p_DEEDS)) (t_DEEDS : KTab K w p_DEEDS tbl_DEEDS) (ok_C : COk K ctab) (F_Machine_M___init__ : Fmt P w K mg base 1 "Machine" "__init__" "Machine.__init__" st_Machine_M___init__ ["self", "some"] m_Machine_M___init__) (F_do_take : Fm P w K mg base 2 "do_take" st_do_take [] [] ["machine", "row"] m_do_take) (F_do_part : Fm P w K mg base 2 "do_part" st_do_part [] [] ["machine", "row"] m_do_part) (F_do_move : Fm P w K mg base 2 "do_move" st_do_move [] [] ["machine", "row"] m_do_move) (F_do_skip : Fm P w K mg base 2 "do_skip" st_do_skip [] [] ["machine", "row"] m_do_skip) (F_do_ask : Fm P w K mg base 2 "do_ask" st_do_ask [] [] ["machine", "row"] m_do_ask) (F_do_go : Fm P w K mg base 1 "do_go" st_do_go [] [] ["_machine", "_row"] m_do_go) (F_do_back : Fm P w K mg base 1 "do_back" st_do_back [] [] ["machine", "_row"] m_do_back) : Fm P w K mg base 3 "run" st_run [] [] ["rows", "some"] m_run :=
  fm_seal m_run_eq (fm_fr (fm_mk (k := 2) N_run a_run sc_run rfl fun f cdv A outer s H E c pas => have nd := sc_run.nd
  b_cons (c_set (i := 2) nd (s_make F_Machine_M___init__ mk_Machine c (by decide) rfl (fun _ _ F => binds_d F fun kV doc pm an cdv ct us h => by match us, h with | [u0, u1], _ => rfl) (a_cons (s_var (i := 1)) (a_nil))))
  (b_cons (c_set (i := 3) nd (s_int))
  (b_cons (c_wh 1000 pas (t_cmp (o_ne c.cf) q_ne (s_ix c.cf (s_ix c.cf (s_var (i := 0)) (s_var (i := 3))) (s_int)) (s_str) rfl) (b_cons (c_set (i := 4) nd (s_ix c.cf (s_var (i := 0)) (s_var (i := 3))))
  (b_cons (c_set (i := 5) nd (s_tab g_DEEDS t_DEEDS (s_ix c.cf (s_var (i := 4)) (s_int))))
  (b_cons (c_if (t_tru (s_callV (x := "deed") (i := 5) (j := 2) (n := 2) (fs := held_DEEDS) (fun p hp => by
    simp only [held_DEEDS, List.mem_cons, List.not_mem_nil, or_false] at hp
    rcases hp with rfl | rfl | rfl | rfl | rfl | rfl | rfl
    · exact FmAll.one F_do_take (by decide) rfl (fun _ _ F => bd_all F fun kV doc pm an cdv ct us ws h1 h2 => by match us, h1, ws, h2 with | [u0, u1], _, [], _ => exact ⟨[u0, u1], rfl, rfl⟩)
    · exact FmAll.one F_do_part (by decide) rfl (fun _ _ F => bd_all F fun kV doc pm an cdv ct us ws h1 h2 => by match us, h1, ws, h2 with | [u0, u1], _, [], _ => exact ⟨[u0, u1], rfl, rfl⟩)
    · exact FmAll.one F_do_move (by decide) rfl (fun _ _ F => bd_all F fun kV doc pm an cdv ct us ws h1 h2 => by match us, h1, ws, h2 with | [u0, u1], _, [], _ => exact ⟨[u0, u1], rfl, rfl⟩)
    · exact FmAll.one F_do_skip (by decide) rfl (fun _ _ F => bd_all F fun kV doc pm an cdv ct us ws h1 h2 => by match us, h1, ws, h2 with | [u0, u1], _, [], _ => exact ⟨[u0, u1], rfl, rfl⟩)
    · exact FmAll.one F_do_ask (by decide) rfl (fun _ _ F => bd_all F fun kV doc pm an cdv ct us ws h1 h2 => by match us, h1, ws, h2 with | [u0, u1], _, [], _ => exact ⟨[u0, u1], rfl, rfl⟩)
    · exact FmAll.one F_do_go (by decide) rfl (fun _ _ F => bd_all F fun kV doc pm an cdv ct us ws h1 h2 => by match us, h1, ws, h2 with | [u0, u1], _, [], _ => exact ⟨[u0, u1], rfl, rfl⟩)
    · exact FmAll.one F_do_back (by decide) rfl (fun _ _ F => bd_all F fun kV doc pm an cdv ct us ws h1 h2 => by match us, h1, ws, h2 with | [u0, u1], _, [], _ => exact ⟨[u0, u1], rfl, rfl⟩)) c (by decide) (a_cons (s_var (i := 2)) (a_cons (s_var (i := 4)) (a_nil))))) (b_cons (c_set (i := 3) nd (s_ix c.cf (s_var (i := 4)) (s_neg (s_int))))
  (b_nil)) (b_cons (c_aug (i := 3) nd (s_int))
  (b_nil)))
  (b_nil)))))
  (b_cons (c_ret (s_tup (a_cons (s_ix c.cf (s_ix c.cf (s_var (i := 0)) (s_var (i := 3))) (s_int)) (a_cons (s_fld ok_C (s_var (i := 2))) (a_nil)))))
  (b_nil))))))
theorem d__law_drawn_rows (a__law_drawn_rows : At K mg "_law_drawn_rows" st__law_drawn_rows [] []) (z_range : mg "range" = none) (z_tuple : mg "tuple" = none) (F__law_take : Fm P w K mg base 1 "_law_take" st__law_take [] [] ["_law_pool_here", "_law_many"] m_law_take) (F__law_drawn_row : Fm P w K mg base 2 "_law_drawn_row" st__law_drawn_row [] [] ["_law_pool_here", "_law_number", "_law_many", "_law_boxes"] m_law_drawn_row) : Fm P w K mg base 3 "_law_drawn_rows" st__law_drawn_rows [] [] ["_law_pool_here", "_law_boxes"] m_law_drawn_rows :=
  fm_seal m_law_drawn_rows_eq (fm_mk (k := 2) N__law_drawn_rows a__law_drawn_rows sc__law_drawn_rows rfl fun f cdv A outer s H E c pas => have nd := sc__law_drawn_rows.nd
  b_cons (c_set (i := 2) nd (s_bin o_add q_add (s_int) (s_call (cs := [.p 0, .p 1]) F__law_take c (by decide) (fun _ _ F => bd_all F fun kV doc pm an cdv ct us ws h1 h2 => by match us, h1, ws, h2 with | [u0, u1], _, [], _ => exact ⟨[u0, u1], rfl, rfl⟩) fixS_nil (a_cons (s_var (i := 0)) (a_cons (s_int) (a_nil))))))
  (b_cons (c_set (i := 3) nd (s_cel (a_nil)))
  (b_cons (c_for pas rfl (i_rng1 z_range (a_cons (s_var (i := 1)) (a_nil))) (g_name nd (i := 4) rfl (by first | exact .inl rfl | exact .inr rfl)) (b_cons (c_set (i := 5) nd (s_ix c.cf (s_lst (a_cons (s_str) (a_cons (s_str) (a_nil)))) (s_call (cs := [.p 0, .p 1]) F__law_take c (by decide) (fun _ _ F => bd_all F fun kV doc pm an cdv ct us ws h1 h2 => by match us, h1, ws, h2 with | [u0, u1], _, [], _ => exact ⟨[u0, u1], rfl, rfl⟩) fixS_nil (a_cons (s_var (i := 0)) (a_cons (s_int) (a_nil))))))
  (b_cons (c_exp (s_app (s_var (i := 3)) (a_cons (s_tup (a_cons (s_str) (a_cons (s_var (i := 4)) (a_cons (s_call (cs := [.p 0, .p 1]) F__law_take c (by decide) (fun _ _ F => bd_all F fun kV doc pm an cdv ct us ws h1 h2 => by match us, h1, ws, h2 with | [u0, u1], _, [], _ => exact ⟨[u0, u1], rfl, rfl⟩) fixS_nil (a_cons (s_var (i := 0)) (a_cons (s_int) (a_nil)))) (a_cons (s_bin o_add q_add (s_int) (s_call (cs := [.p 0, .p 1]) F__law_take c (by decide) (fun _ _ F => bd_all F fun kV doc pm an cdv ct us ws h1 h2 => by match us, h1, ws, h2 with | [u0, u1], _, [], _ => exact ⟨[u0, u1], rfl, rfl⟩) fixS_nil (a_cons (s_var (i := 0)) (a_cons (s_int) (a_nil))))) (a_cons (s_var (i := 5)) (a_cons (s_bin o_sub q_int2 (s_var (i := 2)) (s_int)) (a_nil)))))))) (a_nil))))
  (b_nil))))
  (b_cons (c_for pas rfl (i_rng2 z_range (a_cons (s_var (i := 1)) (a_cons (s_bin o_sub q_int2 (s_var (i := 2)) (s_int)) (a_nil)))) (g_name nd (i := 6) rfl (by first | exact .inl rfl | exact .inr rfl)) (b_cons (c_exp (s_app (s_var (i := 3)) (a_cons (s_call (cs := [.p 0, .p 1, .p 2, .p 3]) F__law_drawn_row c (by decide) (fun _ _ F => bd_all F fun kV doc pm an cdv ct us ws h1 h2 => by match us, h1, ws, h2 with | [u0, u1, u2, u3], _, [], _ => exact ⟨[u0, u1, u2, u3], rfl, rfl⟩) fixS_nil (a_cons (s_var (i := 0)) (a_cons (s_var (i := 6)) (a_cons (s_var (i := 2)) (a_cons (s_var (i := 1)) (a_nil)))))) (a_nil))))
  (b_nil)))
  (b_cons (c_exp (s_app (s_var (i := 3)) (a_cons (s_tup (a_cons (s_str) (a_cons (s_cmp (o_eq c.cf) q_eq (s_call (cs := [.p 0, .p 1]) F__law_take c (by decide) (fun _ _ F => bd_all F fun kV doc pm an cdv ct us ws h1 h2 => by match us, h1, ws, h2 with | [u0, u1], _, [], _ => exact ⟨[u0, u1], rfl, rfl⟩) fixS_nil (a_cons (s_var (i := 0)) (a_cons (s_int) (a_nil)))) (s_int) rfl) (a_nil)))) (a_nil))))
  (b_cons (c_ret (s_bty o_tupOf q_tupOf z_tuple (a_cons (s_bin o_add q_add (s_var (i := 3)) (s_lst (a_cons (s_tup (a_cons (s_str) (a_cons (s_cmp (o_eq c.cf) q_eq (s_call (cs := [.p 0, .p 1]) F__law_take c (by decide) (fun _ _ F => bd_all F fun kV doc pm an cdv ct us ws h1 h2 => by match us, h1, ws, h2 with | [u0, u1], _, [], _ => exact ⟨[u0, u1], rfl, rfl⟩) fixS_nil (a_cons (s_var (i := 0)) (a_cons (s_int) (a_nil)))) (s_int) rfl) (a_nil)))) (a_nil)))) (a_nil))))
  (b_nil)))))))
theorem d_law (a_law : At K mg "law" st_law [] []) (z_range : mg "range" = none) (z_max : mg "max" = none) (z_min : mg "min" = none) (z_len : mg "len" = none) (z_repr : mg "repr" = none) (F__law_pool : Fm P w K mg base 1 "_law_pool" st__law_pool [] [] ["_law_script", "_law_k"] m_law_pool) (F__law_drawn_rows : Fm P w K mg base 3 "_law_drawn_rows" st__law_drawn_rows [] [] ["_law_pool_here", "_law_boxes"] m_law_drawn_rows) (F__law_bytes : Fm P w K mg base 2 "_law_bytes" st__law_bytes [] [] ["_law_pool_here", "_law_many"] m_law_bytes) (F_run : Fm P w K mg base 3 "run" st_run [] [] ["rows", "some"] m_run) (F__law_told_by : Fm P w K mg base 2 "_law_told_by" st__law_told_by [] [] ["_law_rows", "_law_some"] m_law_told_by) : Fm P w K mg base 4 "law" st_law [] [] ["_law_script"] m_law :=
  fm_seal m_law_eq (fm_mk (k := 3) N_law a_law sc_law rfl fun f cdv A outer s H E c pas => have nd := sc_law.nd
  b_cons (c_for pas rfl (i_rng1 z_range (a_cons (s_blt (o_max2 rfl) q_max2 z_max (a_cons (s_int) (a_cons (s_blt (o_min2 rfl) q_min2 z_min (a_cons (s_int) (a_cons (s_blt o_len q_len z_len (a_cons (s_var (i := 0)) (a_nil))) (a_nil)))) (a_nil)))) (a_nil))) (g_name nd (i := 1) rfl (by first | exact .inl rfl | exact .inr rfl)) (b_cons (c_set (i := 2) nd (s_call (cs := [.p 0, .p 1]) F__law_pool c (by decide) (fun _ _ F => bd_all F fun kV doc pm an cdv ct us ws h1 h2 => by match us, h1, ws, h2 with | [u0, u1], _, [], _ => exact ⟨[u0, u1], rfl, rfl⟩) fixS_nil (a_cons (s_var (i := 0)) (a_cons (s_var (i := 1)) (a_nil)))))
  (b_cons (c_for pas rfl (i_rng1 z_range (a_cons (s_int) (a_nil))) (g_name nd (i := 3) rfl (by first | exact .inl rfl | exact .inr rfl)) (b_cons (c_set (i := 4) nd (s_call (cs := [.p 0, .p 1]) F__law_drawn_rows c (by decide) (fun _ _ F => bd_all F fun kV doc pm an cdv ct us ws h1 h2 => by match us, h1, ws, h2 with | [u0, u1], _, [], _ => exact ⟨[u0, u1], rfl, rfl⟩) fixS_nil (a_cons (s_var (i := 2)) (a_cons (s_int) (a_nil)))))
  (b_cons (c_for pas rfl (i_seq (s_bin o_add q_add (s_lc rfl nd (i_rng1 z_range (a_cons (s_int) (a_nil))) (own := [("_law_again", 8)]) (show BlkOk N_law (defScope st_law) _ _ from ⟨rfl, by decide +kernel, by decide +kernel, by decide +kernel, by decide +kernel⟩) (by decide) (fun s H C cl fp => g_name nd (i := 8) rfl (by first | exact .inl rfl | exact .inr rfl)) (fun s H C cl fp => p_nil) (fun s H C cl fp => s_call (cs := [.p 0, .p 1]) F__law_bytes c.blk (by decide) (fun _ _ F => bd_all F fun kV doc pm an cdv ct us ws h1 h2 => by match us, h1, ws, h2 with | [u0, u1], _, [], _ => exact ⟨[u0, u1], rfl, rfl⟩) fixS_nil (a_cons (s_var (i := 2)) (a_cons (s_int) (a_nil))))) (s_lst (a_cons (s_tup (a_nil)) (a_cons (s_tup (a_cons (s_int) (a_nil))) (a_cons (s_bin o_mul q_mul (s_tup (a_cons (s_int) (a_nil))) (s_int)) (a_nil))))))) (g_name nd (i := 5) rfl (by first | exact .inl rfl | exact .inr rfl)) (b_cons (c_set (i := 6) nd (s_blt (o_repr c.cf) q_repr z_repr (a_cons (s_lst (a_cons (s_var (i := 4)) (a_cons (s_var (i := 5)) (a_nil)))) (a_nil))))
  (b_cons (c_if (t_w (w_or (t_cmp (o_ne c.cf) q_ne (s_blt (o_repr c.cf) q_repr z_repr (a_cons (s_call (cs := [.p 0, .p 1]) F_run c (by decide) (fun _ _ F => bd_all F fun kV doc pm an cdv ct us ws h1 h2 => by match us, h1, ws, h2 with | [u0, u1], _, [], _ => exact ⟨[u0, u1], rfl, rfl⟩) fixS_nil (a_cons (s_var (i := 4)) (a_cons (s_var (i := 5)) (a_nil)))) (a_nil))) (s_blt (o_repr c.cf) q_repr z_repr (a_cons (s_call (cs := [.p 0, .p 1]) F__law_told_by c (by decide) (fun _ _ F => bd_all F fun kV doc pm an cdv ct us ws h1 h2 => by match us, h1, ws, h2 with | [u0, u1], _, [], _ => exact ⟨[u0, u1], rfl, rfl⟩) fixS_nil (a_cons (s_var (i := 4)) (a_cons (s_var (i := 5)) (a_nil)))) (a_nil))) rfl) (w_or1 (t_cmp (o_ne c.cf) q_ne (s_blt (o_repr c.cf) q_repr z_repr (a_cons (s_lst (a_cons (s_var (i := 4)) (a_cons (s_var (i := 5)) (a_nil)))) (a_nil))) (s_var (i := 6)) rfl)))) (b_cons (c_ret (s_bl))
  (b_nil)) (b_nil))
  (b_nil))))
  (b_nil))))
  (b_nil))))
  (b_cons (c_set (i := 7) nd (s_tup (a_cons (s_tup (a_cons (s_str) (a_cons (s_int) (a_cons (s_int) (a_cons (s_int) (a_cons (s_str) (a_cons (s_int) (a_nil)))))))) (a_cons (s_tup (a_cons (s_str) (a_cons (s_int) (a_cons (s_int) (a_cons (s_int) (a_cons (s_str) (a_cons (s_int) (a_nil)))))))) (a_cons (s_tup (a_cons (s_str) (a_cons (s_int) (a_cons (s_str) (a_cons (s_int) (a_cons (s_int) (a_nil))))))) (a_cons (s_tup (a_cons (s_str) (a_cons (s_bl) (a_nil)))) (a_nil)))))))
  (b_cons (c_set (i := 7) nd (s_bin o_add q_add (s_var (i := 7)) (s_tup (a_cons (s_tup (a_cons (s_str) (a_cons (s_bl) (a_nil)))) (a_nil)))))
  (b_cons (c_ret (s_and (s_cmp (o_eq c.cf) q_eq (s_call (cs := [.p 0, .p 1]) F_run c (by decide) (fun _ _ F => bd_all F fun kV doc pm an cdv ct us ws h1 h2 => by match us, h1, ws, h2 with | [u0, u1], _, [], _ => exact ⟨[u0, u1], rfl, rfl⟩) fixS_nil (a_cons (s_var (i := 7)) (a_cons (s_tup (a_cons (s_int) (a_cons (s_int) (a_nil)))) (a_nil)))) (s_tup (a_cons (s_bl) (a_cons (s_int) (a_nil)))) rfl) (s_one (s_cmp (o_eq c.cf) q_eq (s_call (cs := [.p 0, .p 1]) F_run c (by decide) (fun _ _ F => bd_all F fun kV doc pm an cdv ct us ws h1 h2 => by match us, h1, ws, h2 with | [u0, u1], _, [], _ => exact ⟨[u0, u1], rfl, rfl⟩) fixS_nil (a_cons (s_var (i := 7)) (a_cons (s_tup (a_cons (s_int) (a_cons (s_int) (a_cons (s_int) (a_cons (s_int) (a_cons (s_int) (a_cons (s_int) (a_nil)))))))) (a_nil)))) (s_tup (a_cons (s_bl) (a_cons (s_int) (a_nil)))) rfl))))
  (b_nil)))))
end

end K24
end

section
set_option maxHeartbeats 4000000
namespace K24
open PySem PySem.Spec PyProof.Rows L2 Mi
/-! ### the pool -/
theorem set_get {M : MH} {l : Nat} {o v : MO} (h : M[l]? = some o) : (M.set l v)[l]? = some v := by
  have hl := (List.getElem?_eq_some_iff.mp h).1
  rw [List.getElem?_set_self hl]
theorem mulR {i j : Int} {M : MH} (h : j.natAbs < 2 ^ 64) : mulD (.int i) (.int j) M = .ok (.int (i * j)) M := by
  unfold mulD
  simp only
  rw [if_pos (.inr (.inr h))]
theorem mulL {i j : Int} {M : MH} (h : i.natAbs < 2 ^ 64) : mulD (.int i) (.int j) M = .ok (.int (i * j)) M := by
  unfold mulD
  simp only
  rw [if_pos (.inr (.inl h))]
theorem take_ok {l : Nat} {M : MH} {n s w : Int} (hm : M[l]? = some (.lst [.int n, .int s])) (hn : 0 ≤ n) (h0 : 0 ≤ s) (h1 : s < 2147483647) (w0 : 0 < w) (w1 : w < 1000) :
    ∃ r n' s' : Int, 0 ≤ r ∧ r < w ∧ 0 ≤ n' ∧ 0 ≤ s' ∧ s' < 2147483647 ∧ m_law_take [.ref l, .int w] M = .ok (.int r) (M.set l (.lst [.int n', .int s'])) := by
  have a0 : ∀ x y : Int, atI ([.int x, .int y] : List D) 0 = some (.int x) := fun _ _ => by rfl
  have a1 : ∀ x y : Int, atI ([.int x, .int y] : List D) 1 = some (.int y) := fun _ _ => by rfl
  have x0 : ixN 2 0 = some 0 := by rfl
  have x1 : ixN 2 1 = some 1 := by rfl
  have lgw : w.natAbs.log2 < 9000 := Nat.lt_trans (lg_of (k := 10) (by omega) (by decide)) (by decide)
  by_cases h : 0 < n
  · refine ⟨n % w, n / w, s, Int.emod_nonneg _ (by omega), Int.emod_lt_of_pos _ w0, Int.ediv_nonneg hn (by omega), h0, h1, ?_⟩
    simp [m_law_take_eq, b_law_take, ixD, hm, a0, gtD, h, modD, fdivD, int2, w0, lgw, cPut, putD, x0, mFn, bCons, bNil, cRet, cAsg, cIf, cErr, cFor, mVar, mC, m1, m2, mN, aNil, aCons, mCall, callM, picks, pick, mAnd, mOr, mAndT, mOrT, mNotT, mB, mTru, mIf, mItems, itemsD, mI, truD, notD, eqD, neD, likeD, isStr, flat, flats, cmpD, isiD, tyName, gNam, gTupD, gsCons, gsNil, lim_n]
  · have m1' : mulD (.int s) (.int 48271) M = .ok (.int (s * 48271)) M := mulR (by decide)
    have b0 : 0 ≤ (s * 48271 + 11) % 2147483647 := Int.emod_nonneg _ (by decide)
    have b1 : (s * 48271 + 11) % 2147483647 < 2147483647 := Int.emod_lt_of_pos _ (by decide)
    generalize hb : (s * 48271 + 11) % 2147483647 = b at b0 b1
    have hm2 := set_get (v := .lst [.int n, .int b]) hm
    have m2' : mulD (.int b) (.int b) (M.set l (.lst [.int n, .int b])) = .ok (.int (b * b)) (M.set l (.lst [.int n, .int b])) := mulR (by omega)
    refine ⟨b * b % 2147483629 / 64 % w, n, b, Int.emod_nonneg _ (by omega), Int.emod_lt_of_pos _ w0, hn, b0, b1, ?_⟩
    simp [m_law_take_eq, b_law_take, ixD, hm, a0, a1, gtD, h, modD, fdivD, int2, w0, lgw, cPut, putD, x0, x1, addD, m1', hb, hm2, m2', show Nat.log2 64 = 6 by rfl, mFn, bCons, bNil, cRet, cAsg, cIf, cErr, cFor, mVar, mC, m1, m2, mN, aNil, aCons, mCall, callM, picks, pick, mAnd, mOr, mAndT, mOrT, mNotT, mB, mTru, mIf, mItems, itemsD, mI, truD, notD, eqD, neD, likeD, isStr, flat, flats, cmpD, isiD, tyName, gNam, gTupD, gsCons, gsNil, lim_n]
def Pool (l : Nat) (M : MH) : Prop := ∃ n s : Int, M[l]? = some (.lst [.int n, .int s]) ∧ 0 ≤ n ∧ 0 ≤ s ∧ s < 2147483647
def Same (l : Nat) (M M' : MH) : Prop := M'.length = M.length ∧ ∀ j, j ≠ l → M'[j]? = M[j]?
theorem Same.refl {l : Nat} {M : MH} : Same l M M := ⟨rfl, fun _ _ => rfl⟩
theorem Same.trans {l : Nat} {M M1 M2 : MH} (a : Same l M M1) (b : Same l M1 M2) : Same l M M2 := ⟨b.1.trans a.1, fun j h => (b.2 j h).trans (a.2 j h)⟩
theorem take {l : Nat} {M : MH} (P : Pool l M) {w : Int} (w0 : 0 < w) (w1 : w < 1000) : ∃ (r : Int) (M' : MH), 0 ≤ r ∧ r < w ∧ Pool l M' ∧ Same l M M' ∧ m_law_take [.ref l, .int w] M = .ok (.int r) M' := by
  obtain ⟨n, s, hm, hn, h0, h1⟩ := P
  obtain ⟨r, n', s', r0, r1, g0, g1, g2, e⟩ := take_ok hm hn h0 h1 w0 w1
  exact ⟨r, _, r0, r1, ⟨n', s', set_get hm, g0, g1, g2⟩, ⟨by rw [List.length_set], fun j h => List.getElem?_set_ne (Ne.symm h)⟩, e⟩
theorem deq_int (i j : Int) : deq (.int i) (.int j) = decide (i = j) := by
  rw [Bool.eq_iff_iff, decide_eq_true_iff]
  simp [deq, py, PyData.eqv]
theorem deq_str (a b : Str) : deq (.str a) (.str b) = decide (a = b) := by
  rw [Bool.eq_iff_iff, decide_eq_true_iff]
  simp [deq, py, PyData.eqv]
/-! ### rows -/
inductive Rw where
  | take (box more size : Int) (o : Bool) (to : Int)
  | part (box more shift width to : Int)
  | move (k to : Int)
  | skip (box times more to : Int)
  | go (to : Int)
  | back
  | fin (b : Bool)
  | ask (box : Int) (w : Nat) (worth to : Int)
def word (o : Bool) : D := .str (if o then "big" else "small")
def asks (w : Nat) : D := .str (match w with | 0 => "same" | 1 => "less" | _ => "more")
def enc : Rw → D
  | .take box more size o to => .tup [.str "take", .int box, .int more, .int size, word o, .int to]
  | .part box more shift width to => .tup [.str "part", .int box, .int more, .int shift, .int width, .int to]
  | .move k to => .tup [.str "move", .int k, .int to]
  | .skip box times more to => .tup [.str "skip", .int box, .int times, .int more, .int to]
  | .go to => .tup [.str "go", .int to]
  | .back => .tup [.str "back"]
  | .fin b => .tup [.str "end", .bl b]
  | .ask box w worth to => .tup [.str "ask", .int box, asks w, .int worth, .int to]
/-- a row at the place n of so many -/
def Good (n many : Int) : Rw → Prop
  | .take box more size o to => 0 ≤ box ∧ box < 3 ∧ 0 ≤ more ∧ more < 4 ∧ 1 ≤ size ∧ size ≤ 3 ∧ n < to ∧ to < many
  | .part box more shift width to => 0 ≤ box ∧ box < 3 ∧ 0 ≤ more ∧ more < 4 ∧ 0 ≤ shift ∧ shift < 8 ∧ 1 ≤ width ∧ width ≤ 8 ∧ n < to ∧ to < many
  | .move k to => 0 ≤ k ∧ k < 4 ∧ n < to ∧ to < many
  | .skip box times more to => 0 ≤ box ∧ box < 3 ∧ 1 ≤ times ∧ times ≤ 3 ∧ -2 ≤ more ∧ more < 3 ∧ n < to ∧ to < many
  | .go to => n < to ∧ to < many
  | .back => True
  | .fin b => True
  | .ask box w worth to => 0 ≤ box ∧ box < 3 ∧ w < 3 ∧ 0 ≤ worth ∧ worth ≤ 256 ∧ n < to ∧ to < many
end K24

end

section
set_option maxHeartbeats 4000000
namespace K24
open PySem PySem.Spec PyProof.Rows L2 Mi
theorem at_big {r : Int} (h0 : 0 ≤ r) (h1 : r < 2) : atI ([.str "big", .str "small"] : List D) r = some (word (decide (r = 0))) := by
  rcases (by omega : r = 0 ∨ r = 1) with rfl | rfl <;> rfl
theorem at_ask {r : Int} (h0 : 0 ≤ r) (h1 : r < 3) : atI ([.str "same", .str "less", .str "more"] : List D) r = some (asks r.toNat) := by
  rcases (by omega : r = 0 ∨ r = 1 ∨ r = 2) with rfl | rfl | rfl <;> rfl
theorem at_worth {r : Int} (h0 : 0 ≤ r) (h1 : r < 6) : ∃ v : Int, 0 ≤ v ∧ v ≤ 256 ∧ atI ([.int 0, .int 1, .int 2, .int 3, .int 255, .int 256] : List D) r = some (.int v) := by
  rcases (by omega : r = 0 ∨ r = 1 ∨ r = 2 ∨ r = 3 ∨ r = 4 ∨ r = 5) with rfl | rfl | rfl | rfl | rfl | rfl
  · exact ⟨0, by decide, by decide, rfl⟩
  · exact ⟨1, by decide, by decide, rfl⟩
  · exact ⟨2, by decide, by decide, rfl⟩
  · exact ⟨3, by decide, by decide, rfl⟩
  · exact ⟨255, by decide, by decide, rfl⟩
  · exact ⟨256, by decide, by decide, rfl⟩
theorem row_ok {l : Nat} {M : MH} (P : Pool l M) {n many : Int} (h3 : 3 ≤ n) (hn : n ≤ many - 3) (hm : many ≤ 12) : ∃ (r : Rw) (M' : MH), Good n many r ∧ Pool l M' ∧ Same l M M' ∧ m_law_drawn_row [.ref l, .int n, .int many, .int 3] M = .ok (enc r) M' := by
  obtain ⟨r1, M1, a1, b1, P1, S1, e1⟩ := take P (w := many - 1 - n) (by omega) (by omega)
  obtain ⟨r2, M2, a2, b2, P2, S2, e2⟩ := take P1 (w := 3) (by decide) (by decide)
  obtain ⟨r3, M3, a3, b3, P3, S3, e3⟩ := take P2 (w := 9) (by decide) (by decide)
  have S := (S1.trans S2).trans S3
  rw [m_law_drawn_row_eq]
  rcases (by omega : r3 = 0 ∨ r3 = 1 ∨ r3 = 2 ∨ r3 = 3 ∨ r3 = 4 ∨ r3 = 5 ∨ r3 = 6 ∨ r3 = 7 ∨ r3 = 8) with rfl | rfl | rfl | rfl | rfl | rfl | rfl | rfl | rfl
  · obtain ⟨r4, M4, a4, b4, P4, S4, e4⟩ := take P3 (w := 4) (by decide) (by decide)
    obtain ⟨r5, M5, a5, b5, P5, S5, e5⟩ := take P4 (w := 3) (by decide) (by decide)
    obtain ⟨r6, M6, a6, b6, P6, S6, e6⟩ := take P5 (w := 2) (by decide) (by decide)
    refine ⟨.take r2 r4 (1 + r5) (decide (r6 = 0)) (n + 1 + r1), M6, by unfold Good; omega, P6, ((S.trans S4).trans S5).trans S6, ?_⟩
    simp [b_law_drawn_row, deq_int, addD, subD, int2, e1, e2, e3, e4, e5, e6, ixD, lstD, at_big a6 b6, tupD, enc, mFn, bCons, bNil, cRet, cAsg, cIf, cErr, cFor, mVar, mC, m1, m2, mN, aNil, aCons, mCall, callM, picks, pick, mAnd, mOr, mAndT, mOrT, mNotT, mB, mTru, mIf, mItems, itemsD, mI, truD, notD, eqD, neD, likeD, isStr, flat, flats, cmpD, isiD, tyName, gNam, gTupD, gsCons, gsNil, lim_n]
  · obtain ⟨r4, M4, a4, b4, P4, S4, e4⟩ := take P3 (w := 4) (by decide) (by decide)
    obtain ⟨r5, M5, a5, b5, P5, S5, e5⟩ := take P4 (w := 8) (by decide) (by decide)
    obtain ⟨r6, M6, a6, b6, P6, S6, e6⟩ := take P5 (w := 8) (by decide) (by decide)
    refine ⟨.part r2 r4 r5 (1 + r6) (n + 1 + r1), M6, by unfold Good; omega, P6, ((S.trans S4).trans S5).trans S6, ?_⟩
    simp [b_law_drawn_row, deq_int, addD, subD, int2, e1, e2, e3, e4, e5, e6, ixD, lstD, tupD, enc, mFn, bCons, bNil, cRet, cAsg, cIf, cErr, cFor, mVar, mC, m1, m2, mN, aNil, aCons, mCall, callM, picks, pick, mAnd, mOr, mAndT, mOrT, mNotT, mB, mTru, mIf, mItems, itemsD, mI, truD, notD, eqD, neD, likeD, isStr, flat, flats, cmpD, isiD, tyName, gNam, gTupD, gsCons, gsNil, lim_n]
  · obtain ⟨r4, M4, a4, b4, P4, S4, e4⟩ := take P3 (w := 4) (by decide) (by decide)
    refine ⟨.move r4 (n + 1 + r1), M4, by unfold Good; omega, P4, S.trans S4, ?_⟩
    simp [b_law_drawn_row, deq_int, addD, subD, int2, e1, e2, e3, e4, ixD, lstD, tupD, enc, mFn, bCons, bNil, cRet, cAsg, cIf, cErr, cFor, mVar, mC, m1, m2, mN, aNil, aCons, mCall, callM, picks, pick, mAnd, mOr, mAndT, mOrT, mNotT, mB, mTru, mIf, mItems, itemsD, mI, truD, notD, eqD, neD, likeD, isStr, flat, flats, cmpD, isiD, tyName, gNam, gTupD, gsCons, gsNil, lim_n]
  · obtain ⟨r4, M4, a4, b4, P4, S4, e4⟩ := take P3 (w := 3) (by decide) (by decide)
    obtain ⟨r5, M5, a5, b5, P5, S5, e5⟩ := take P4 (w := 5) (by decide) (by decide)
    refine ⟨.skip r2 (1 + r4) (r5 - 2) (n + 1 + r1), M5, by unfold Good; omega, P5, (S.trans S4).trans S5, ?_⟩
    simp [b_law_drawn_row, deq_int, addD, subD, int2, e1, e2, e3, e4, e5, ixD, lstD, tupD, enc, mFn, bCons, bNil, cRet, cAsg, cIf, cErr, cFor, mVar, mC, m1, m2, mN, aNil, aCons, mCall, callM, picks, pick, mAnd, mOr, mAndT, mOrT, mNotT, mB, mTru, mIf, mItems, itemsD, mI, truD, notD, eqD, neD, likeD, isStr, flat, flats, cmpD, isiD, tyName, gNam, gTupD, gsCons, gsNil, lim_n]
  · refine ⟨.go (n + 1 + r1), M3, by unfold Good; omega, P3, S, ?_⟩
    simp [b_law_drawn_row, deq_int, addD, subD, int2, e1, e2, e3, ixD, lstD, tupD, enc, mFn, bCons, bNil, cRet, cAsg, cIf, cErr, cFor, mVar, mC, m1, m2, mN, aNil, aCons, mCall, callM, picks, pick, mAnd, mOr, mAndT, mOrT, mNotT, mB, mTru, mIf, mItems, itemsD, mI, truD, notD, eqD, neD, likeD, isStr, flat, flats, cmpD, isiD, tyName, gNam, gTupD, gsCons, gsNil, lim_n]
  · refine ⟨.back, M3, by unfold Good; trivial, P3, S, ?_⟩
    simp [b_law_drawn_row, deq_int, addD, subD, int2, e1, e2, e3, ixD, lstD, tupD, enc, mFn, bCons, bNil, cRet, cAsg, cIf, cErr, cFor, mVar, mC, m1, m2, mN, aNil, aCons, mCall, callM, picks, pick, mAnd, mOr, mAndT, mOrT, mNotT, mB, mTru, mIf, mItems, itemsD, mI, truD, notD, eqD, neD, likeD, isStr, flat, flats, cmpD, isiD, tyName, gNam, gTupD, gsCons, gsNil, lim_n]
  · obtain ⟨r4, M4, a4, b4, P4, S4, e4⟩ := take P3 (w := 3) (by decide) (by decide)
    by_cases z : r4 = 0
    · subst z
      obtain ⟨r5, M5, a5, b5, P5, S5, e5⟩ := take P4 (w := 2) (by decide) (by decide)
      refine ⟨.fin (decide (r5 = 0)), M5, by unfold Good; trivial, P5, (S.trans S4).trans S5, ?_⟩
      rcases (by omega : r5 = 0 ∨ r5 = 1) with rfl | rfl <;>
        simp [b_law_drawn_row, deq_int, addD, subD, int2, e1, e2, e3, e4, e5, ixD, lstD, tupD, enc, mFn, bCons, bNil, cRet, cAsg, cIf, cErr, cFor, mVar, mC, m1, m2, mN, aNil, aCons, mCall, callM, picks, pick, mAnd, mOr, mAndT, mOrT, mNotT, mB, mTru, mIf, mItems, itemsD, mI, truD, notD, eqD, neD, likeD, isStr, flat, flats, cmpD, isiD, tyName, gNam, gTupD, gsCons, gsNil, lim_n]
    · obtain ⟨r5, M5, a5, b5, P5, S5, e5⟩ := take P4 (w := 3) (by decide) (by decide)
      obtain ⟨r6, M6, a6, b6, P6, S6, e6⟩ := take P5 (w := 6) (by decide) (by decide)
      obtain ⟨v, v0, v1, ev'⟩ := at_worth a6 b6
      refine ⟨.ask r2 r5.toNat v (n + 1 + r1), M6, by unfold Good; omega, P6, ((S.trans S4).trans S5).trans S6, ?_⟩
      simp [b_law_drawn_row, deq_int, addD, subD, int2, e1, e2, e3, e4, e5, e6, ixD, lstD, tupD, enc, z, at_ask a5 b5, ev', mFn, bCons, bNil, cRet, cAsg, cIf, cErr, cFor, mVar, mC, m1, m2, mN, aNil, aCons, mCall, callM, picks, pick, mAnd, mOr, mAndT, mOrT, mNotT, mB, mTru, mIf, mItems, itemsD, mI, truD, notD, eqD, neD, likeD, isStr, flat, flats, cmpD, isiD, tyName, gNam, gTupD, gsCons, gsNil, lim_n]
  · obtain ⟨r5, M5, a5, b5, P5, S5, e5⟩ := take P3 (w := 3) (by decide) (by decide)
    obtain ⟨r6, M6, a6, b6, P6, S6, e6⟩ := take P5 (w := 6) (by decide) (by decide)
    obtain ⟨v, v0, v1, ev'⟩ := at_worth a6 b6
    refine ⟨.ask r2 r5.toNat v (n + 1 + r1), M6, by unfold Good; omega, P6, (S.trans S5).trans S6, ?_⟩
    simp [b_law_drawn_row, deq_int, addD, subD, int2, e1, e2, e3, e5, e6, ixD, lstD, tupD, enc, at_ask a5 b5, ev', mFn, bCons, bNil, cRet, cAsg, cIf, cErr, cFor, mVar, mC, m1, m2, mN, aNil, aCons, mCall, callM, picks, pick, mAnd, mOr, mAndT, mOrT, mNotT, mB, mTru, mIf, mItems, itemsD, mI, truD, notD, eqD, neD, likeD, isStr, flat, flats, cmpD, isiD, tyName, gNam, gTupD, gsCons, gsNil, lim_n]
  · obtain ⟨r5, M5, a5, b5, P5, S5, e5⟩ := take P3 (w := 3) (by decide) (by decide)
    obtain ⟨r6, M6, a6, b6, P6, S6, e6⟩ := take P5 (w := 6) (by decide) (by decide)
    obtain ⟨v, v0, v1, ev'⟩ := at_worth a6 b6
    refine ⟨.ask r2 r5.toNat v (n + 1 + r1), M6, by unfold Good; omega, P6, (S.trans S5).trans S6, ?_⟩
    simp [b_law_drawn_row, deq_int, addD, subD, int2, e1, e2, e3, e5, e6, ixD, lstD, tupD, enc, at_ask a5 b5, ev', mFn, bCons, bNil, cRet, cAsg, cIf, cErr, cFor, mVar, mC, m1, m2, mN, aNil, aCons, mCall, callM, picks, pick, mAnd, mOr, mAndT, mOrT, mNotT, mB, mTru, mIf, mItems, itemsD, mI, truD, notD, eqD, neD, likeD, isStr, flat, flats, cmpD, isiD, tyName, gNam, gTupD, gsCons, gsNil, lim_n]
end K24

end

section
set_option maxHeartbeats 4000000
namespace K24
open PySem PySem.Spec PyProof.Rows L2 Mi
/-! ### the drawn rows -/
def First (many : Int) (j : Nat) (r : Rw) : Prop := ∃ (more size : Int) (o : Bool), r = .take j more size o (many - 1) ∧ 0 ≤ more ∧ more < 4 ∧ 1 ≤ size ∧ size ≤ 3
def Keep (l : Nat) (M0 M : MH) : Prop := M.length = M0.length + 1 ∧ ∀ j, j < M0.length → j ≠ l → M[j]? = M0[j]?
theorem Keep.same {l : Nat} {M0 M M' : MH} (k : Keep l M0 M) (s : Same l M M') : Keep l M0 M' := ⟨s.1.trans k.1, fun j h n => (s.2 j n).trans (k.2 j h n)⟩
theorem Keep.put {l : Nat} {M0 M : MH} {o : MO} (k : Keep l M0 M) : Keep l M0 (M.set M0.length o) := ⟨by rw [List.length_set]; exact k.1, fun j h n => by rw [List.getElem?_set_ne (by omega)]; exact k.2 j h n⟩
theorem Pool.put {l c : Nat} {M : MH} {o : MO} (P : Pool l M) (h : c ≠ l) : Pool l (M.set c o) := by
  obtain ⟨n, s, hm, r⟩ := P
  exact ⟨n, s, by rw [List.getElem?_set_ne h]; exact hm, r⟩
theorem len_small {Rs : List Rw} (h : Rs.length ≤ 12) : (Rs.map enc).length < lim := by rw [List.length_map, lim_n]; omega
theorem map_snoc (Rs : List Rw) (r : Rw) : Rs.map enc ++ [enc r] = (Rs ++ [r]).map enc := by simp
theorem get_snoc {Rs : List Rw} {r x : Rw} {j : Nat} (h : (Rs ++ [r])[j]? = some x) : Rs[j]? = some x ∨ (j = Rs.length ∧ x = r) := by
  by_cases hj : j < Rs.length
  · rw [List.getElem?_append_left hj] at h
    exact .inl h
  · rw [List.getElem?_append_right (by omega)] at h
    have : j - Rs.length = 0 := by
      by_cases z : j - Rs.length = 0
      · exact z
      · obtain ⟨k, hk⟩ := Nat.exists_eq_succ_of_ne_zero z
        rw [hk] at h
        simp at h
    rw [this] at h
    exact .inr ⟨by omega, by simpa using h.symm⟩
/-- what is drawn -/
structure Drawn (Rs : List Rw) : Prop where
  lo : 6 ≤ Rs.length
  hi : Rs.length ≤ 12
  fst : ∀ j r, j < 3 → Rs[j]? = some r → First Rs.length j r
  good : ∀ (j : Nat) r, Rs[j]? = some r → Good j Rs.length r
  last : ∃ b, Rs[Rs.length - 1]? = some (.fin b)
theorem rows_ok {l : Nat} {M : MH} (P : Pool l M) (hl : l < M.length) : ∃ (Rs : List Rw) (M' : MH), Drawn Rs ∧ Pool l M' ∧ Keep l M M' ∧ m_law_drawn_rows [.ref l, .int 3] M = .ok (.tup (Rs.map enc)) M' := by
  obtain ⟨r0, M1, a0, b0, P1, S1, e1⟩ := take P (w := 7) (by decide) (by decide)
  obtain ⟨many, hmany⟩ : ∃ many : Nat, (many : Int) = 6 + r0 := ⟨(6 + r0).toNat, by omega⟩
  have lo : 6 ≤ many := by omega
  have hi : many ≤ 12 := by omega
  have ne : M.length ≠ l := by omega
  have len1 : M1.length = M.length := S1.1
  have K0 : Keep l M (M1 ++ [.lst []]) := ⟨by rw [List.length_append, len1]; rfl, fun j h n => by rw [List.getElem?_append_left (by omega)]; exact S1.2 j n⟩
  have P0 : Pool l (M1 ++ [.lst []]) := by
    obtain ⟨n, s, hm, r⟩ := P1
    exact ⟨n, s, by rw [List.getElem?_append_left (by omega)]; exact hm, r⟩
  have c0 : (M1 ++ [MO.lst []])[M.length]? = some (.lst (([] : List Rw).map enc)) := by rw [← len1]; exact get_last
  have rg1 : rng1D [.int 3] (M1 ++ [.lst []]) = .ok (rangeL 0 3) (M1 ++ [.lst []]) := rng1_n (n := 3) rfl (by decide)
  -- the first three
  obtain ⟨e2, M2, h1, o4, o5, Rs, rfl, P2, c2, K2, l2, f2⟩ := forGo_inv (g := gNam 4) (b := p_law_drawn_rows_L0) (fun i e M' => ∃ (o4 o5 : Option D) (Rs : List Rw), e = [some (.ref l), some (.int 3), some (.int many), some (.ref M.length), o4, o5, none] ∧ Pool l M' ∧ M'[M.length]? = some (.lst (Rs.map enc)) ∧ Keep l M M' ∧ Rs.length = i ∧ ∀ j r, Rs[j]? = some r → First many j r)
    (rangeL 0 3) 0 [some (.ref l), some (.int 3), some (.int many), some (.ref M.length), none, none, none] (M1 ++ [.lst []]) ⟨none, none, [], rfl, P0, c0, K0, rfl, fun j r h => by simp at h⟩ fun i d e M' hd hi' => by
      obtain ⟨o4, o5, Rs, rfl, P2, c2, K2, l2, f2⟩ := hi'
      obtain ⟨hi3, rfl⟩ := rangeL_get hd
      obtain ⟨q1, N1, g1, g2, Q1, T1, t1⟩ := take P2 (w := 2) (by decide) (by decide)
      obtain ⟨q2, N2, g3, g4, Q2, T2, t2⟩ := take Q1 (w := 3) (by decide) (by decide)
      obtain ⟨q3, N3, g5, g6, Q3, T3, t3⟩ := take Q2 (w := 2) (by decide) (by decide)
      have T := (T1.trans T2).trans T3
      have c3 : N3[M.length]? = some (.lst (Rs.map enc)) := by rw [T.2 _ ne]; exact c2
      have cN : N1[M.length]? = some (.lst (Rs.map enc)) := by rw [T1.2 _ ne]; exact c2
      have sm : Rs.length < 1000000 := by omega
      have ab := at_big g1 g2
      have eb : enc (.take (0 + (i : Nat)) q2 (1 + q3) (decide (q1 = 0)) (many - 1)) = .tup [.str "take", .int (0 + (i : Nat)), .int q2, .int (1 + q3), word (decide (q1 = 0)), .int (many - 1)] := rfl
      refine ⟨_, _, N3.set M.length (.lst ((Rs ++ [Rw.take (0 + (i : Nat)) q2 (1 + q3) (decide (q1 = 0)) (many - 1)]).map enc)), rfl, .inl ?_, some (.int (0 + i)), some (word (decide (q1 = 0))), Rs ++ [Rw.take (0 + (i : Nat)) q2 (1 + q3) (decide (q1 = 0)) (many - 1)], rfl, Q3.put ne, set_get c3, (K2.same T).put, by rw [List.length_append, l2]; rfl, fun j r h => ?_⟩
      · rw [← map_snoc, eb]
        simp [p_law_drawn_rows_L0, ixD, lstD, t1, t2, t3, ab, cExp, mMt, rcv, c2, cN, c3, appD, sm, tupD, addD, subD, int2, mFn, bCons, bNil, cRet, cAsg, cIf, cErr, cFor, mVar, mC, m1, m2, mN, aNil, aCons, mCall, callM, picks, pick, mAnd, mOr, mAndT, mOrT, mNotT, mB, mTru, mIf, mItems, itemsD, mI, truD, notD, eqD, neD, likeD, isStr, flat, flats, cmpD, isiD, tyName, gNam, gTupD, gsCons, gsNil, lim_n]
      · rcases get_snoc h with h | ⟨rfl, rfl⟩
        · exact f2 j r h
        · exact ⟨q2, 1 + q3, decide (q1 = 0), by rw [l2]; simp, by omega, by omega, by omega, by omega⟩
  have l3 : Rs.length = 3 := l2
  have rg2 : rng2D [.int 3, .int (many - 2)] M2 = .ok (rangeL 3 (many - 5)) M2 := by
    unfold rng2D
    simp only
    rw [if_pos (show (3 : Int).natAbs < lim ∧ ((many : Int) - 2).natAbs < lim by rw [lim_n]; omega), show ((many : Int) - 2 - 3).toNat = many - 5 by omega]
  -- those amid
  obtain ⟨e3, M3, h2, p4, p5, p6, Rs2, rfl, P3, c3, K3, l4, f4, g4⟩ := forGo_inv (g := gNam 6) (b := p_law_drawn_rows_L1) (fun i e M' => ∃ (o4 o5 o6 : Option D) (Rs : List Rw), e = [some (.ref l), some (.int 3), some (.int many), some (.ref M.length), o4, o5, o6] ∧ Pool l M' ∧ M'[M.length]? = some (.lst (Rs.map enc)) ∧ Keep l M M' ∧ Rs.length = 3 + i ∧ (∀ j r, j < 3 → Rs[j]? = some r → First many j r) ∧ ∀ (j : Nat) r, Rs[j]? = some r → Good j many r)
    (rangeL 3 (many - 5)) 0 [some (.ref l), some (.int 3), some (.int many), some (.ref M.length), o4, o5, none] M2 ⟨o4, o5, none, Rs, rfl, P2, c2, K2, l3, fun j r _ h => f2 j r h, fun j r h => by
      obtain ⟨more, size, o, rfl, q⟩ := f2 j r h
      have hj : j < Rs.length := (List.getElem?_eq_some_iff.mp h).1
      unfold Good
      omega⟩ fun i d e M' hd hi' => by
      obtain ⟨o4, o5, o6, Rs, rfl, P2, c2, K2, l2, f2, g2⟩ := hi'
      obtain ⟨hi3, rfl⟩ := rangeL_get hd
      obtain ⟨r, N, gr, Q, T, t⟩ := row_ok P2 (n := 3 + (i : Nat)) (many := many) (by omega) (by omega) (by omega)
      have c3 : N[M.length]? = some (.lst (Rs.map enc)) := by rw [T.2 _ ne]; exact c2
      have sm : Rs.length < 1000000 := by omega
      refine ⟨_, _, N.set M.length (.lst ((Rs ++ [r]).map enc)), rfl, .inl ?_, o4, o5, some (.int (3 + i)), Rs ++ [r], rfl, Q.put ne, set_get c3, (K2.same T).put, by rw [List.length_append, l2]; rfl, fun j x hj h => ?_, fun j x h => ?_⟩
      · rw [← map_snoc]
        simp [p_law_drawn_rows_L1, t, cExp, mMt, rcv, c2, c3, appD, sm, mFn, bCons, bNil, cRet, cAsg, cIf, cErr, cFor, mVar, mC, m1, m2, mN, aNil, aCons, mCall, callM, picks, pick, mAnd, mOr, mAndT, mOrT, mNotT, mB, mTru, mIf, mItems, itemsD, mI, truD, notD, eqD, neD, likeD, isStr, flat, flats, cmpD, isiD, tyName, gNam, gTupD, gsCons, gsNil, lim_n]
      · rcases get_snoc h with h | ⟨rfl, rfl⟩
        · exact f2 j x hj h
        · omega
      · rcases get_snoc h with h | ⟨rfl, rfl⟩
        · exact g2 j x h
        · have z : ((Rs.length : Nat) : Int) = 3 + i := by omega
          rw [z]
          exact gr
  have l5 : Rs2.length = many - 2 := by
    rw [l4]
    show 3 + (0 + (rangeL 3 (many - 5)).length) = _
    unfold rangeL
    rw [List.length_map, List.length_range]
    omega
  obtain ⟨q1, N1, y1, y2, Q1, T1, t1⟩ := take P3 (w := 2) (by decide) (by decide)
  have cN : N1[M.length]? = some (.lst (Rs2.map enc)) := by rw [T1.2 _ ne]; exact c3
  have PN := Q1.put (o := .lst ((Rs2 ++ [Rw.fin (decide (q1 = 0))]).map enc)) ne
  have cN2 := set_get (v := .lst ((Rs2 ++ [Rw.fin (decide (q1 = 0))]).map enc)) cN
  obtain ⟨q2, N2, y3, y4, Q2, T2, t2⟩ := take PN (w := 2) (by decide) (by decide)
  have cN3 : N2[M.length]? = some (.lst ((Rs2 ++ [Rw.fin (decide (q1 = 0))]).map enc)) := by rw [T2.2 _ ne]; exact cN2
  refine ⟨Rs2 ++ [.fin (decide (q1 = 0))] ++ [.fin (decide (q2 = 0))], N2, ⟨?_, ?_, ?_, ?_, ?_⟩, Q2, ((K3.same T1).put).same T2, ?_⟩
  · simp only [List.length_append, List.length_singleton]; omega
  · simp only [List.length_append, List.length_singleton]; omega
  · intro j r hj h
    have e : ((Rs2 ++ [Rw.fin (decide (q1 = 0))] ++ [Rw.fin (decide (q2 = 0))]).length : Int) = many := by
      simp only [List.length_append, List.length_singleton]; omega
    rw [e]
    rw [List.append_assoc, List.getElem?_append_left (by omega)] at h
    exact f4 j r hj h
  · intro j r h
    have e : ((Rs2 ++ [Rw.fin (decide (q1 = 0))] ++ [Rw.fin (decide (q2 = 0))]).length : Int) = many := by
      simp only [List.length_append, List.length_singleton]; omega
    rw [e]
    rcases get_snoc h with h | ⟨_, rfl⟩
    · rcases get_snoc h with h | ⟨_, rfl⟩
      · exact g4 j r h
      · trivial
    · trivial
  · exact ⟨decide (q2 = 0), by simp⟩
  · have sm : Rs2.length < 1000000 := by omega
    have sm2 : Rs2.length + 1 + 1 ≤ 1000000 := by omega
    have e6 : (6 : Int) + r0 = many := hmany.symm
    have d1 : deq (.int q1) (.int 0) = decide (q1 = 0) := deq_int _ _
    have d2 : deq (.int q2) (.int 0) = decide (q2 = 0) := deq_int _ _
    have eb : ∀ b, enc (.fin b) = .tup [.str "end", .bl b] := fun _ => rfl
    simp only [List.map_append, List.map_cons, List.map_nil, eb] at t2 cN2 cN3 ⊢
    simp [m_law_drawn_rows_eq, b_law_drawn_rows, e1, addD, e6, celD, len1, rg1, h1, subD, int2, rg2, h2, cExp, mMt, rcv, c3, t1, cN, appD, sm, d1, d2, tupD, t2, cN3, lstD, sm2, tupOfD, cN2, mFn, bCons, bNil, cRet, cAsg, cIf, cErr, cFor, mVar, mC, m1, m2, mN, aNil, aCons, mCall, callM, picks, pick, mAnd, mOr, mAndT, mOrT, mNotT, mB, mTru, mIf, mItems, itemsD, mI, truD, notD, eqD, neD, likeD, isStr, flat, flats, cmpD, isiD, tyName, gNam, gTupD, gsCons, gsNil, lim_n]
end K24

end

section
set_option maxHeartbeats 4000000
namespace K24
open PySem PySem.Spec PyProof.Rows L2 Mi
/-! ### numbers in bytes -/
def fold (xs : List Int) : Int := xs.foldl (fun a b => a * 256 + b) 0
def val (o : Bool) (xs : List Int) : Int := fold (if o then xs else xs.reverse)
theorem fold_take {bs : List Int} {i : Nat} {b : Int} (h : bs[i]? = some b) : fold (bs.take (i + 1)) = fold (bs.take i) * 256 + b := by
  unfold fold
  rw [List.take_add_one, h, Option.toList_some, List.foldl_append]
  rfl
theorem map_int_get {bs : List Int} {i : Nat} {d : D} (h : (bs.map D.int)[i]? = some d) : ∃ b, bs[i]? = some b ∧ d = .int b := by
  rw [List.getElem?_map] at h
  obtain ⟨b, h1, h2⟩ := Option.map_eq_some_iff.mp h
  exact ⟨b, h1, h2.symm⟩
theorem mul256 (i : Int) (M : MH) : mulD (.int i) (.int 256) M = .ok (.int (i * 256)) M := mulR (by decide)
theorem e_bs : deq (.str "big") (.str "small") = false := by decide +kernel
theorem e_ss : deq (.str "small") (.str "small") = true := by decide +kernel
theorem e_bb : deq (.str "big") (.str "big") = true := by decide +kernel
theorem e_sb : deq (.str "small") (.str "big") = false := by decide +kernel
theorem num_loop (bs : List Int) (x y z : Option D) (M : MH) : ∃ o, forGo (gNam 4) p_number_in_L0 (bs.map D.int) [x, y, z, some (.int 0), none] M = .nx [x, y, z, some (.int (fold bs)), o] M := by
  obtain ⟨e2, M2, h1, rfl, o, rfl⟩ := forGo_inv (g := gNam 4) (b := p_number_in_L0) (fun i e M1 => M1 = M ∧ ∃ o, e = [x, y, z, some (.int (fold (bs.take i))), o]) (bs.map D.int) 0 [x, y, z, some (.int 0), none] M ⟨rfl, none, rfl⟩ fun i d e M1 hd hi => by
    obtain ⟨rfl, o, rfl⟩ := hi
    obtain ⟨b, hb, rfl⟩ := map_int_get hd
    refine ⟨_, _, _, rfl, .inl ?_, rfl, some (.int b), rfl⟩
    simp [p_number_in_L0, addD, mul256, fold_take hb, mFn, bCons, bNil, cRet, cAsg, cIf, cErr, cFor, mVar, mC, m1, m2, mN, aNil, aCons, mCall, callM, picks, pick, mAnd, mOr, mAndT, mOrT, mNotT, mB, mTru, mIf, mItems, itemsD, mI, truD, notD, eqD, neD, likeD, isStr, flat, flats, cmpD, isiD, tyName, gNam, gTupD, gsCons, gsNil, lim_n]
  refine ⟨o, ?_⟩
  rw [h1]
  simp
theorem worth_loop (bs : List Int) (x y : Option D) (M : MH) : ∃ o, forGo (gNam 3) p_law_worth_L0 (bs.map D.int) [x, y, some (.int 0), none] M = .nx [x, y, some (.int (fold bs)), o] M := by
  obtain ⟨e2, M2, h1, rfl, o, rfl⟩ := forGo_inv (g := gNam 3) (b := p_law_worth_L0) (fun i e M1 => M1 = M ∧ ∃ o, e = [x, y, some (.int (fold (bs.take i))), o]) (bs.map D.int) 0 [x, y, some (.int 0), none] M ⟨rfl, none, rfl⟩ fun i d e M1 hd hi => by
    obtain ⟨rfl, o, rfl⟩ := hi
    obtain ⟨b, hb, rfl⟩ := map_int_get hd
    refine ⟨_, _, _, rfl, .inl ?_, rfl, some (.int b), rfl⟩
    simp [p_law_worth_L0, addD, mul256, fold_take hb, mFn, bCons, bNil, cRet, cAsg, cIf, cErr, cFor, mVar, mC, m1, m2, mN, aNil, aCons, mCall, callM, picks, pick, mAnd, mOr, mAndT, mOrT, mNotT, mB, mTru, mIf, mItems, itemsD, mI, truD, notD, eqD, neD, likeD, isStr, flat, flats, cmpD, isiD, tyName, gNam, gTupD, gsCons, gsNil, lim_n]
  refine ⟨o, ?_⟩
  rw [h1]
  simp
theorem number_in_ok (o : Bool) (bs : List Int) (M : MH) : m_number_in [.tup (bs.map D.int), word o] M = .ok (.int (val o bs)) M := by
  cases o with
  | true =>
    obtain ⟨o, h⟩ := num_loop bs (some (.tup (bs.map D.int))) (some (.str "big")) (some (.tup (bs.map D.int))) M
    simp [m_number_in_eq, b_number_in, word, e_bs, val, h, mFn, bCons, bNil, cRet, cAsg, cIf, cErr, cFor, mVar, mC, m1, m2, mN, aNil, aCons, mCall, callM, picks, pick, mAnd, mOr, mAndT, mOrT, mNotT, mB, mTru, mIf, mItems, itemsD, mI, truD, notD, eqD, neD, likeD, isStr, flat, flats, cmpD, isiD, tyName, gNam, gTupD, gsCons, gsNil, lim_n]
  | false =>
    obtain ⟨o, h⟩ := num_loop bs.reverse (some (.tup (bs.map D.int))) (some (.str "small")) (some (.tup (bs.reverse.map D.int))) M
    rw [List.map_reverse] at h
    simp [m_number_in_eq, b_number_in, word, e_ss, val, revD, negD, h, mFn, bCons, bNil, cRet, cAsg, cIf, cErr, cFor, mVar, mC, m1, m2, mN, aNil, aCons, mCall, callM, picks, pick, mAnd, mOr, mAndT, mOrT, mNotT, mB, mTru, mIf, mItems, itemsD, mI, truD, notD, eqD, neD, likeD, isStr, flat, flats, cmpD, isiD, tyName, gNam, gTupD, gsCons, gsNil, lim_n]
theorem worth_ok (o : Bool) (bs : List Int) (M : MH) : m_law_worth [.tup (bs.map D.int), word o] M = .ok (.int (val o bs)) M := by
  have a0 : ∀ x y : D, atI ([x, y] : List D) 0 = some x := fun _ _ => by rfl
  have a1 : ∀ x y : D, atI ([x, y] : List D) 1 = some y := fun _ _ => by rfl
  cases o with
  | true =>
    obtain ⟨o, h⟩ := worth_loop bs (some (.tup (bs.map D.int))) (some (.str "big")) M
    simp [m_law_worth_eq, b_law_worth, word, e_bb, val, h, revD, negD, lstD, ixD, Mi.intD, a0, a1, mFn, bCons, bNil, cRet, cAsg, cIf, cErr, cFor, mVar, mC, m1, m2, mN, aNil, aCons, mCall, callM, picks, pick, mAnd, mOr, mAndT, mOrT, mNotT, mB, mTru, mIf, mItems, itemsD, mI, truD, notD, eqD, neD, likeD, isStr, flat, flats, cmpD, isiD, tyName, gNam, gTupD, gsCons, gsNil, lim_n]
  | false =>
    obtain ⟨o, h⟩ := worth_loop bs.reverse (some (.tup (bs.map D.int))) (some (.str "small")) M
    rw [List.map_reverse] at h
    simp [m_law_worth_eq, b_law_worth, word, e_sb, val, revD, negD, h, lstD, ixD, Mi.intD, a0, a1, mFn, bCons, bNil, cRet, cAsg, cIf, cErr, cFor, mVar, mC, m1, m2, mN, aNil, aCons, mCall, callM, picks, pick, mAnd, mOr, mAndT, mOrT, mNotT, mB, mTru, mIf, mItems, itemsD, mI, truD, notD, eqD, neD, likeD, isStr, flat, flats, cmpD, isiD, tyName, gNam, gTupD, gsCons, gsNil, lim_n]
end K24

end

section
set_option maxHeartbeats 4000000
namespace K24
open PySem PySem.Spec PyProof.Rows L2 Mi
/-! ### places -/
theorem ixN_of {n : Nat} {i : Int} {k : Nat} (h : i = k) (hk : k < n) : ixN n i = some k := by
  subst h
  unfold ixN
  rw [if_pos (by omega), if_pos (by omega)]
  simp
theorem atI_of {ds : List D} {i : Int} {k : Nat} {d : D} (h : i = k) (e : ds[k]? = some d) : atI ds i = some d := by
  unfold atI
  rw [ixN_of h (List.getElem?_eq_some_iff.mp e).1]
  exact e
theorem atI_int {bs : List Int} {i : Int} {k : Nat} {b : Int} (h : i = k) (e : bs[k]? = some b) : atI (bs.map D.int) i = some (.int b) := atI_of h (by rw [List.getElem?_map, e]; rfl)
def cutI (ns : List Int) (lo hi : Option Int) : List Int := (ns.drop (HT.sIx ns.length 0 lo)).take (HT.sIx ns.length ns.length hi - HT.sIx ns.length 0 lo)
theorem cut_map (ns : List Int) (lo hi : Option Int) : Mi.cutD (ns.map D.int) lo hi = (cutI ns lo hi).map D.int := by
  unfold Mi.cutD cutI
  rw [List.length_map, List.map_take, List.map_drop]
/-! ### the machine -/
def mf (S : List Int) (pl seen : Int) : List (Str × D) := [("some", .tup (S.map .int)), ("boxes", .ref 1), ("place", .int pl), ("seen", .int seen)]
def PM (S bs : List Int) (pl seen : Int) : MH := [.ins "Machine" (mf S pl seen), .lst (bs.map .int)]
section
variable (S bs : List Int) (pl seen : Int)
theorem f_some : fldD ctab "some" (.ref 0) (PM S bs pl seen) = .ok (.tup (S.map .int)) (PM S bs pl seen) := by rfl
theorem f_boxes : fldD ctab "boxes" (.ref 0) (PM S bs pl seen) = .ok (.ref 1) (PM S bs pl seen) := by rfl
theorem f_place : fldD ctab "place" (.ref 0) (PM S bs pl seen) = .ok (.int pl) (PM S bs pl seen) := by rfl
theorem f_seen : fldD ctab "seen" (.ref 0) (PM S bs pl seen) = .ok (.int seen) (PM S bs pl seen) := by rfl
theorem s_place (x : Int) : setFD ctab "place" (.ref 0) (.int x) (PM S bs pl seen) = some (PM S bs x seen) := by rfl
theorem s_seen (x : Int) : setFD ctab "seen" (.ref 0) (.int x) (PM S bs pl seen) = some (PM S bs pl x) := by rfl
end
variable {S bs : List Int} {pl seen : Int}
theorem x_box {box : Int} {k : Nat} {b : Int} (h : box = k) (e : bs[k]? = some b) : ixD (.ref 1) (.int box) (PM S bs pl seen) = .ok (.int b) (PM S bs pl seen) := by
  have m : (PM S bs pl seen)[1]? = some (.lst (bs.map .int)) := rfl
  unfold ixD
  simp only [m, atI_int h e]
theorem p_box {box w : Int} {k : Nat} (h : box = k) (hk : k < bs.length) : putD (.ref 1) (.int box) (.int w) (PM S bs pl seen) = some (PM S (bs.set k w) pl seen) := by
  have m : (PM S bs pl seen)[1]? = some (.lst (bs.map .int)) := rfl
  unfold putD
  simp only [m]
  rw [List.length_map, ixN_of h hk]
  simp only
  unfold PM
  rw [List.map_set]
  rfl
theorem put_ok {box w e : Int} {k : Nat} (h : box = k) (hk : k < bs.length) : m_put_in_box [.ref 0, .int box, .int w, .int e] (PM S bs pl seen) = .ok .non (PM S (bs.set k w) pl (max seen e)) := by
  simp [m_put_in_box_eq, b_put_in_box, cPut, f_boxes, p_box h hk, cFld, f_seen, max2D, s_seen, mFn, bCons, bNil, cRet, cAsg, cIf, cErr, cFor, mVar, mC, m1, m2, mN, aNil, aCons, mCall, callM, picks, pick, mAnd, mOr, mAndT, mOrT, mNotT, mB, mTru, mIf, mItems, itemsD, mI, truD, notD, eqD, neD, likeD, isStr, flat, flats, cmpD, isiD, tyName, gNam, gTupD, gsCons, gsNil, lim_n]
theorem go_on_ok (k : Int) : m_go_on [.ref 0, .int k] (PM S bs pl seen) = if k < 0 ∨ pl + k > S.length then .ok (.bl true) (PM S bs pl seen) else .ok (.bl false) (PM S bs (pl + k) seen) := by
  by_cases h1 : k < 0
  · rw [if_pos (.inl h1)]
    simp [m_go_on_eq, b_go_on, ltD, h1, mFn, bCons, bNil, cRet, cAsg, cIf, cErr, cFor, mVar, mC, m1, m2, mN, aNil, aCons, mCall, callM, picks, pick, mAnd, mOr, mAndT, mOrT, mNotT, mB, mTru, mIf, mItems, itemsD, mI, truD, notD, eqD, neD, likeD, isStr, flat, flats, cmpD, isiD, tyName, gNam, gTupD, gsCons, gsNil, lim_n]
  · by_cases h2 : pl + k > S.length
    · rw [if_pos (.inr h2)]
      have h2' : (S.length : Int) < pl + k := h2
      simp [m_go_on_eq, b_go_on, ltD, h1, f_place, f_some, addD, lenD, gtD, h2', mFn, bCons, bNil, cRet, cAsg, cIf, cErr, cFor, mVar, mC, m1, m2, mN, aNil, aCons, mCall, callM, picks, pick, mAnd, mOr, mAndT, mOrT, mNotT, mB, mTru, mIf, mItems, itemsD, mI, truD, notD, eqD, neD, likeD, isStr, flat, flats, cmpD, isiD, tyName, gNam, gTupD, gsCons, gsNil, lim_n]
    · rw [if_neg (by omega)]
      have h2' : ¬ (S.length : Int) < pl + k := h2
      simp [m_go_on_eq, b_go_on, ltD, h1, f_place, f_some, addD, lenD, gtD, h2', cFldAdd, s_place, clsAt, mFn, bCons, bNil, cRet, cAsg, cIf, cErr, cFor, mVar, mC, m1, m2, mN, aNil, aCons, mCall, callM, picks, pick, mAnd, mOr, mAndT, mOrT, mNotT, mB, mTru, mIf, mItems, itemsD, mI, truD, notD, eqD, neD, likeD, isStr, flat, flats, cmpD, isiD, tyName, gNam, gTupD, gsCons, gsNil, lim_n]
theorem take_deed {box more size to : Int} {o : Bool} {k : Nat} (h : box = k) (hk : k < bs.length) : m_do_take [.ref 0, enc (.take box more size o to)] (PM S bs pl seen) =
    if pl + more + size > S.length then .ok (.bl true) (PM S bs pl seen) else .ok (.bl false) (PM S (bs.set k (val o (cutI S (some (pl + more)) (some (pl + more + size))))) pl (max seen (pl + more + size))) := by
  have nb := number_in_ok o (cutI S (some (pl + more)) (some (pl + more + size))) (PM S bs pl seen)
  rw [← cut_map] at nb
  by_cases h2 : pl + more + size > S.length
  · rw [if_pos h2]
    have h2' : (S.length : Int) < pl + more + size := h2
    simp [m_do_take_eq, b_do_take, enc, f_place, f_some, addD, lenD, gtD, h2', mFn, bCons, bNil, cRet, cAsg, cIf, cErr, cFor, mVar, mC, m1, m2, mN, aNil, aCons, mCall, callM, picks, pick, mAnd, mOr, mAndT, mOrT, mNotT, mB, mTru, mIf, mItems, itemsD, mI, truD, notD, eqD, neD, likeD, isStr, flat, flats, cmpD, isiD, tyName, gNam, gTupD, gsCons, gsNil, lim_n]
  · rw [if_neg h2]
    have h2' : ¬ (S.length : Int) < pl + more + size := h2
    simp [m_do_take_eq, b_do_take, enc, f_place, f_some, addD, lenD, gtD, h2', cExp, mSl, mPart, sliceD, nb, put_ok h hk, mFn, bCons, bNil, cRet, cAsg, cIf, cErr, cFor, mVar, mC, m1, m2, mN, aNil, aCons, mCall, callM, picks, pick, mAnd, mOr, mAndT, mOrT, mNotT, mB, mTru, mIf, mItems, itemsD, mI, truD, notD, eqD, neD, likeD, isStr, flat, flats, cmpD, isiD, tyName, gNam, gTupD, gsCons, gsNil, lim_n]
theorem and_mask {x width : Int} (h0 : 1 ≤ width) (h1 : width ≤ 8) : Builtin.bitAnd x (1 * 2 ^ width.toNat - 1) = x % 2 ^ width.toNat := by
  rcases (by omega : width = 1 ∨ width = 2 ∨ width = 3 ∨ width = 4 ∨ width = 5 ∨ width = 6 ∨ width = 7 ∨ width = 8) with rfl | rfl | rfl | rfl | rfl | rfl | rfl | rfl
  · exact bitAnd_m1 x
  · exact bitAnd_m2 x
  · exact bitAnd_m3 x
  · exact bitAnd_m4 x
  · exact bitAnd_m5 x
  · exact bitAnd_m6 x
  · exact bitAnd_m7 x
  · exact bitAnd_m8 x
theorem part_deed {box more shift width to : Int} {k j : Nat} {x : Int} (h : box = k) (hk : k < bs.length) (s0 : 0 ≤ shift) (w0 : 1 ≤ width) (w1 : width ≤ 8) (hp : 0 ≤ pl + more) : m_do_part [.ref 0, enc (.part box more shift width to)] (PM S bs pl seen) =
    if pl + more ≥ S.length then .ok (.bl true) (PM S bs pl seen) else .ok (.bl false) (PM S (bs.set k (S.getD (pl + more).toNat 0 / 2 ^ shift.toNat % 2 ^ width.toNat)) pl (max seen (pl + more + 1))) := by
  by_cases h2 : pl + more ≥ S.length
  · rw [if_pos h2]
    have h2' : (S.length : Int) ≤ pl + more := h2
    simp [m_do_part_eq, b_do_part, enc, f_place, f_some, addD, lenD, geD, h2', mFn, bCons, bNil, cRet, cAsg, cIf, cErr, cFor, mVar, mC, m1, m2, mN, aNil, aCons, mCall, callM, picks, pick, mAnd, mOr, mAndT, mOrT, mNotT, mB, mTru, mIf, mItems, itemsD, mI, truD, notD, eqD, neD, likeD, isStr, flat, flats, cmpD, isiD, tyName, gNam, gTupD, gsCons, gsNil, lim_n]
  · rw [if_neg h2]
    have h2' : ¬ (S.length : Int) ≤ pl + more := h2
    have hx : S[(pl + more).toNat]? = some (S.getD (pl + more).toNat 0) := by
      rw [List.getD_eq_getElem?_getD, List.getElem?_eq_getElem (by omega)]
      rfl
    have ax := atI_int (i := pl + more) (k := (pl + more).toNat) (by omega) hx
    have w2 : width ≤ 1000000 := by omega
    have w3 : 0 ≤ width := by omega
    have am := and_mask (x := S.getD (pl + more).toNat 0 / 2 ^ shift.toNat) w0 w1
    generalize S.getD (pl + more).toNat 0 = X at ax am ⊢
    rw [Int.one_mul] at am
    have pk := fun w e => put_ok (S := S) (bs := bs) (pl := pl) (seen := seen) (w := w) (e := e) h hk
    simp [m_do_part_eq, b_do_part, enc, f_place, f_some, addD, lenD, geD, h2', cExp, ixD, ax, shrD, shlD, subD, andD, int2, s0, w2, w3, am, pk, mFn, bCons, bNil, cRet, cAsg, cIf, cErr, cFor, mVar, mC, m1, m2, mN, aNil, aCons, mCall, callM, picks, pick, mAnd, mOr, mAndT, mOrT, mNotT, mB, mTru, mIf, mItems, itemsD, mI, truD, notD, eqD, neD, likeD, isStr, flat, flats, cmpD, isiD, tyName, gNam, gTupD, gsCons, gsNil, lim_n]
theorem move_deed {k to : Int} : m_do_move [.ref 0, enc (.move k to)] (PM S bs pl seen) = if k < 0 ∨ pl + k > S.length then .ok (.bl true) (PM S bs pl seen) else .ok (.bl false) (PM S bs (pl + k) seen) := by
  have a1 : atI ([.str "move", .int k, .int to] : List D) 1 = some (.int k) := rfl
  have g := go_on_ok (S := S) (bs := bs) (pl := pl) (seen := seen) k
  by_cases hc : k < 0 ∨ pl + k > S.length
  · rw [if_pos hc] at g ⊢
    simp [m_do_move_eq, b_do_move, enc, ixD, a1, g, mFn, bCons, bNil, cRet, cAsg, cIf, cErr, cFor, mVar, mC, m1, m2, mN, aNil, aCons, mCall, callM, picks, pick, mAnd, mOr, mAndT, mOrT, mNotT, mB, mTru, mIf, mItems, itemsD, mI, truD, notD, eqD, neD, likeD, isStr, flat, flats, cmpD, isiD, tyName, gNam, gTupD, gsCons, gsNil, lim_n]
  · rw [if_neg hc] at g ⊢
    simp [m_do_move_eq, b_do_move, enc, ixD, a1, g, mFn, bCons, bNil, cRet, cAsg, cIf, cErr, cFor, mVar, mC, m1, m2, mN, aNil, aCons, mCall, callM, picks, pick, mAnd, mOr, mAndT, mOrT, mNotT, mB, mTru, mIf, mItems, itemsD, mI, truD, notD, eqD, neD, likeD, isStr, flat, flats, cmpD, isiD, tyName, gNam, gTupD, gsCons, gsNil, lim_n]
theorem skip_deed {box times more to : Int} {k : Nat} {b : Int} (h : box = k) (e : bs[k]? = some b) (t0 : 1 ≤ times) (t1 : times ≤ 3) : m_do_skip [.ref 0, enc (.skip box times more to)] (PM S bs pl seen) =
    if b * times + more < 0 ∨ pl + (b * times + more) > S.length then .ok (.bl true) (PM S bs pl seen) else .ok (.bl false) (PM S bs (pl + (b * times + more)) seen) := by
  have g := go_on_ok (S := S) (bs := bs) (pl := pl) (seen := seen) (b * times + more)
  have ml : mulD (.int times) (.int b) (PM S bs pl seen) = .ok (.int (times * b)) (PM S bs pl seen) := mulL (by omega)
  have cm : times * b = b * times := Int.mul_comm _ _
  rw [cm] at ml
  have xb := x_box (S := S) (pl := pl) (seen := seen) h e
  by_cases hc : b * times + more < 0 ∨ pl + (b * times + more) > S.length
  · rw [if_pos hc] at g ⊢
    simp [m_do_skip_eq, b_do_skip, enc, f_boxes, xb, ml, addD, g, mFn, bCons, bNil, cRet, cAsg, cIf, cErr, cFor, mVar, mC, m1, m2, mN, aNil, aCons, mCall, callM, picks, pick, mAnd, mOr, mAndT, mOrT, mNotT, mB, mTru, mIf, mItems, itemsD, mI, truD, notD, eqD, neD, likeD, isStr, flat, flats, cmpD, isiD, tyName, gNam, gTupD, gsCons, gsNil, lim_n]
  · rw [if_neg hc] at g ⊢
    simp [m_do_skip_eq, b_do_skip, enc, f_boxes, xb, ml, addD, g, mFn, bCons, bNil, cRet, cAsg, cIf, cErr, cFor, mVar, mC, m1, m2, mN, aNil, aCons, mCall, callM, picks, pick, mAnd, mOr, mAndT, mOrT, mNotT, mB, mTru, mIf, mItems, itemsD, mI, truD, notD, eqD, neD, likeD, isStr, flat, flats, cmpD, isiD, tyName, gNam, gTupD, gsCons, gsNil, lim_n]
def asksB (w : Nat) (a b : Int) : Bool := match w with | 0 => decide (a = b) | 1 => decide (a < b) | _ => decide (b < a)
theorem ask_deed {box worth to : Int} {w k : Nat} {b : Int} (h : box = k) (e : bs[k]? = some b) (hw : w < 3) : m_do_ask [.ref 0, enc (.ask box w worth to)] (PM S bs pl seen) = .ok (.bl (asksB w b worth)) (PM S bs pl seen) := by
  have xb := x_box (S := S) (pl := pl) (seen := seen) h e
  have d1 : deq (.str "same") (.str "same") = true := by decide +kernel
  have d2 : deq (.str "less") (.str "same") = false := by decide +kernel
  have d3 : deq (.str "less") (.str "less") = true := by decide +kernel
  have d4 : deq (.str "more") (.str "same") = false := by decide +kernel
  have d5 : deq (.str "more") (.str "less") = false := by decide +kernel
  rcases (by omega : w = 0 ∨ w = 1 ∨ w = 2) with rfl | rfl | rfl <;>
    simp [m_do_ask_eq, b_do_ask, enc, asks, f_boxes, xb, m_is_so_eq, b_is_so, d1, d2, d3, d4, d5, ltD, gtD, asksB, deq_int, mFn, bCons, bNil, cRet, cAsg, cIf, cErr, cFor, mVar, mC, m1, m2, mN, aNil, aCons, mCall, callM, picks, pick, mAnd, mOr, mAndT, mOrT, mNotT, mB, mTru, mIf, mItems, itemsD, mI, truD, notD, eqD, neD, likeD, isStr, flat, flats, cmpD, isiD, tyName, gNam, gTupD, gsCons, gsNil, lim_n]
theorem go_deed {to : Int} : m_do_go [.ref 0, enc (.go to)] (PM S bs pl seen) = .ok (.bl true) (PM S bs pl seen) := by
  simp [m_do_go_eq, b_do_go, mFn, bCons, bNil, cRet, cAsg, cIf, cErr, cFor, mVar, mC, m1, m2, mN, aNil, aCons, mCall, callM, picks, pick, mAnd, mOr, mAndT, mOrT, mNotT, mB, mTru, mIf, mItems, itemsD, mI, truD, notD, eqD, neD, likeD, isStr, flat, flats, cmpD, isiD, tyName, gNam, gTupD, gsCons, gsNil, lim_n]
theorem back_deed : m_do_back [.ref 0, enc .back] (PM S bs pl seen) = .ok (.bl false) (PM S bs 0 seen) := by
  simp [m_do_back_eq, b_do_back, cFld, s_place, mFn, bCons, bNil, cRet, cAsg, cIf, cErr, cFor, mVar, mC, m1, m2, mN, aNil, aCons, mCall, callM, picks, pick, mAnd, mOr, mAndT, mOrT, mNotT, mB, mTru, mIf, mItems, itemsD, mI, truD, notD, eqD, neD, likeD, isStr, flat, flats, cmpD, isiD, tyName, gNam, gTupD, gsCons, gsNil, lim_n]
end K24

end

section
set_option maxHeartbeats 4000000
namespace K24
open PySem PySem.Spec PyProof.Rows L2 Mi
structure St where
  n : Int
  pl : Int
  seen : Int
  bs : List Int
def stp (S : List Int) (σ : St) : Rw → St
  | .take box more size o to => if σ.pl + more + size > S.length then { σ with n := to } else ⟨σ.n + 1, σ.pl, max σ.seen (σ.pl + more + size), σ.bs.set box.toNat (val o (cutI S (some (σ.pl + more)) (some (σ.pl + more + size))))⟩
  | .part box more shift width to => if σ.pl + more ≥ S.length then { σ with n := to } else ⟨σ.n + 1, σ.pl, max σ.seen (σ.pl + more + 1), σ.bs.set box.toNat (S.getD (σ.pl + more).toNat 0 / 2 ^ shift.toNat % 2 ^ width.toNat)⟩
  | .move k to => if k < 0 ∨ σ.pl + k > S.length then { σ with n := to } else ⟨σ.n + 1, σ.pl + k, σ.seen, σ.bs⟩
  | .skip box times more to => if σ.bs.getD box.toNat 0 * times + more < 0 ∨ σ.pl + (σ.bs.getD box.toNat 0 * times + more) > S.length then { σ with n := to } else ⟨σ.n + 1, σ.pl + (σ.bs.getD box.toNat 0 * times + more), σ.seen, σ.bs⟩
  | .go to => { σ with n := to }
  | .back => ⟨σ.n + 1, 0, σ.seen, σ.bs⟩
  | .fin _ => σ
  | .ask box w worth to => if asksB w (σ.bs.getD box.toNat 0) worth = true then { σ with n := to } else { σ with n := σ.n + 1 }
def penv (Rs : List Rw) (S : List Int) (n : Int) (o4 o5 : Option D) : En := [some (.tup (Rs.map enc)), some (.tup (S.map .int)), some (.ref 0), some (.int n), o4, o5]
theorem rg2 : (List.range 2).map Src.p = [.p 0, .p 1] := rfl
theorem fd_take : held_DEEDS.find? (fun p => decide (p.1 = ("do_take" : Str))) = some (("do_take" : Str), m_do_take) := by rfl
theorem fd_part : held_DEEDS.find? (fun p => decide (p.1 = ("do_part" : Str))) = some (("do_part" : Str), m_do_part) := by rfl
theorem fd_move : held_DEEDS.find? (fun p => decide (p.1 = ("do_move" : Str))) = some (("do_move" : Str), m_do_move) := by rfl
theorem fd_skip : held_DEEDS.find? (fun p => decide (p.1 = ("do_skip" : Str))) = some (("do_skip" : Str), m_do_skip) := by rfl
theorem fd_ask : held_DEEDS.find? (fun p => decide (p.1 = ("do_ask" : Str))) = some (("do_ask" : Str), m_do_ask) := by rfl
theorem fd_go : held_DEEDS.find? (fun p => decide (p.1 = ("do_go" : Str))) = some (("do_go" : Str), m_do_go) := by rfl
theorem fd_back : held_DEEDS.find? (fun p => decide (p.1 = ("do_back" : Str))) = some (("do_back" : Str), m_do_back) := by rfl
theorem tb_take (M : MH) : tabD tbl_DEEDS (.str "take") M = .ok (.fn "do_take") M := by rfl
theorem tb_part (M : MH) : tabD tbl_DEEDS (.str "part") M = .ok (.fn "do_part") M := by rfl
theorem tb_move (M : MH) : tabD tbl_DEEDS (.str "move") M = .ok (.fn "do_move") M := by rfl
theorem tb_skip (M : MH) : tabD tbl_DEEDS (.str "skip") M = .ok (.fn "do_skip") M := by rfl
theorem tb_ask (M : MH) : tabD tbl_DEEDS (.str "ask") M = .ok (.fn "do_ask") M := by rfl
theorem tb_go (M : MH) : tabD tbl_DEEDS (.str "go") M = .ok (.fn "do_go") M := by rfl
theorem tb_back (M : MH) : tabD tbl_DEEDS (.str "back") M = .ok (.fn "do_back") M := by rfl
/-- one turn of the machine, its deed told -/
theorem turn {Rs : List Rw} {S : List Int} {n : Int} {o4 o5 : Option D} {M M' : MH} {r : Rw} {ds : List D} {w nm : Str} {f : MF} {fail : Bool} (ax : atI (Rs.map enc) n = some (enc r)) (er : enc r = .tup ds) (a0 : atI ds 0 = some (.str w)) (tb : ∀ M, tabD tbl_DEEDS (.str w) M = .ok (.fn nm) M) (fd : held_DEEDS.find? (fun p => decide (p.1 = nm)) = some (nm, f))
    (de : f [.ref 0, .tup ds] M = .ok (.bl fail) M') (to : Int) (am : fail = true → atI ds (-1) = some (.int to)) : p_run_L0 (penv Rs S n o4 o5) M = .nx (penv Rs S (if fail = true then to else n + 1) (some (.tup ds)) (some (.fn nm))) M' := by
  unfold penv
  cases fail with
  | true =>
    simp [p_run_L0, ixD, ax, er, a0, tb, mCallV, fd, rg2, de, am rfl, negD, mFn, bCons, bNil, cRet, cAsg, cIf, cErr, cFor, mVar, mC, m1, m2, mN, aNil, aCons, mCall, callM, picks, pick, mAnd, mOr, mAndT, mOrT, mNotT, mB, mTru, mIf, mItems, itemsD, mI, truD, notD, eqD, neD, likeD, isStr, flat, flats, cmpD, isiD, tyName, gNam, gTupD, gsCons, gsNil, lim_n]
  | false =>
    simp [p_run_L0, ixD, ax, er, a0, tb, mCallV, fd, rg2, de, cAug, addD, mFn, bCons, bNil, cRet, cAsg, cIf, cErr, cFor, mVar, mC, m1, m2, mN, aNil, aCons, mCall, callM, picks, pick, mAnd, mOr, mAndT, mOrT, mNotT, mB, mTru, mIf, mItems, itemsD, mI, truD, notD, eqD, neD, likeD, isStr, flat, flats, cmpD, isiD, tyName, gNam, gTupD, gsCons, gsNil, lim_n]
theorem p_step {S : List Int} {Rs : List Rw} {σ : St} {r : Rw} {k : Nat} {many : Int} (hn : σ.n = k) (hr : Rs[k]? = some r) (g : Good σ.n many r) (nf : ∀ b, r ≠ .fin b) (hb : 3 ≤ σ.bs.length) (hp : 0 ≤ σ.pl) (o4 o5 : Option D) :
    ∃ q4 q5, p_run_L0 (penv Rs S σ.n o4 o5) (PM S σ.bs σ.pl σ.seen) = .nx (penv Rs S (stp S σ r).n q4 q5) (PM S (stp S σ r).bs (stp S σ r).pl (stp S σ r).seen) := by
  have ax : atI (Rs.map enc) σ.n = some (enc r) := atI_of hn (by rw [List.getElem?_map, hr]; rfl)
  have box : ∀ {box : Int}, 0 ≤ box → box < 3 → box = (box.toNat : Nat) ∧ box.toNat < σ.bs.length ∧ σ.bs[box.toNat]? = some (σ.bs.getD box.toNat 0) := fun {box} h0 h1 => by
    refine ⟨by omega, by omega, ?_⟩
    rw [List.getD_eq_getElem?_getD, List.getElem?_eq_getElem (by omega)]
    rfl
  cases r with
  | take box_ more size o to =>
    unfold Good at g
    obtain ⟨h1, h2, h3⟩ := box (box := box_) (by omega) (by omega)
    have d := take_deed (S := S) (pl := σ.pl) (seen := σ.seen) (more := more) (size := size) (to := to) (o := o) h1 h2
    by_cases hc : σ.pl + more + size > S.length
    · rw [if_pos hc] at d
      rw [show stp S σ (.take box_ more size o to) = { σ with n := to } from if_pos hc]
      exact ⟨_, _, turn (S := S) ax rfl rfl tb_take fd_take d to fun _ => rfl⟩
    · rw [if_neg hc] at d
      rw [show stp S σ (.take box_ more size o to) = ⟨σ.n + 1, σ.pl, max σ.seen (σ.pl + more + size), σ.bs.set box_.toNat (val o (cutI S (some (σ.pl + more)) (some (σ.pl + more + size))))⟩ from if_neg hc]
      exact ⟨_, _, turn (S := S) ax rfl rfl tb_take fd_take d to fun z => nomatch z⟩
  | part box_ more shift width to =>
    unfold Good at g
    obtain ⟨h1, h2, h3⟩ := box (box := box_) (by omega) (by omega)
    have d := part_deed (S := S) (pl := σ.pl) (seen := σ.seen) (more := more) (shift := shift) (width := width) (to := to) (x := 0) (j := 0) h1 h2 (by omega) (by omega) (by omega) (by omega)
    by_cases hc : σ.pl + more ≥ S.length
    · rw [if_pos hc] at d
      rw [show stp S σ (.part box_ more shift width to) = { σ with n := to } from if_pos hc]
      exact ⟨_, _, turn (S := S) ax rfl rfl tb_part fd_part d to fun _ => rfl⟩
    · rw [if_neg hc] at d
      rw [show stp S σ (.part box_ more shift width to) = ⟨σ.n + 1, σ.pl, max σ.seen (σ.pl + more + 1), σ.bs.set box_.toNat (S.getD (σ.pl + more).toNat 0 / 2 ^ shift.toNat % 2 ^ width.toNat)⟩ from if_neg hc]
      exact ⟨_, _, turn (S := S) ax rfl rfl tb_part fd_part d to fun z => nomatch z⟩
  | move x to =>
    have d := move_deed (S := S) (bs := σ.bs) (pl := σ.pl) (seen := σ.seen) (k := x) (to := to)
    by_cases hc : x < 0 ∨ σ.pl + x > S.length
    · rw [if_pos hc] at d
      rw [show stp S σ (.move x to) = { σ with n := to } from if_pos hc]
      exact ⟨_, _, turn (S := S) ax rfl rfl tb_move fd_move d to fun _ => rfl⟩
    · rw [if_neg hc] at d
      rw [show stp S σ (.move x to) = ⟨σ.n + 1, σ.pl + x, σ.seen, σ.bs⟩ from if_neg hc]
      exact ⟨_, _, turn (S := S) ax rfl rfl tb_move fd_move d to fun z => nomatch z⟩
  | skip box_ times more to =>
    unfold Good at g
    obtain ⟨h1, h2, h3⟩ := box (box := box_) (by omega) (by omega)
    have d := skip_deed (S := S) (pl := σ.pl) (seen := σ.seen) (times := times) (more := more) (to := to) h1 h3 (by omega) (by omega)
    by_cases hc : σ.bs.getD box_.toNat 0 * times + more < 0 ∨ σ.pl + (σ.bs.getD box_.toNat 0 * times + more) > S.length
    · rw [if_pos hc] at d
      rw [show stp S σ (.skip box_ times more to) = { σ with n := to } from if_pos hc]
      exact ⟨_, _, turn (S := S) ax rfl rfl tb_skip fd_skip d to fun _ => rfl⟩
    · rw [if_neg hc] at d
      rw [show stp S σ (.skip box_ times more to) = ⟨σ.n + 1, σ.pl + (σ.bs.getD box_.toNat 0 * times + more), σ.seen, σ.bs⟩ from if_neg hc]
      exact ⟨_, _, turn (S := S) ax rfl rfl tb_skip fd_skip d to fun z => nomatch z⟩
  | go to => exact ⟨_, _, turn (S := S) ax rfl rfl tb_go fd_go (go_deed (to := to)) to fun _ => rfl⟩
  | back => exact ⟨_, _, turn (S := S) ax rfl rfl tb_back fd_back (back_deed) 0 fun z => nomatch z⟩
  | fin b => exact absurd rfl (nf b)
  | ask box_ w worth to =>
    unfold Good at g
    obtain ⟨h1, h2, h3⟩ := box (box := box_) (by omega) (by omega)
    have d := ask_deed (S := S) (pl := σ.pl) (seen := σ.seen) (worth := worth) (to := to) h1 h3 g.2.2.1
    cases hc : asksB w (σ.bs.getD box_.toNat 0) worth with
    | true =>
      rw [hc] at d
      rw [show stp S σ (.ask box_ w worth to) = { σ with n := to } from if_pos hc]
      exact ⟨_, _, turn (S := S) ax rfl rfl tb_ask fd_ask d to fun _ => rfl⟩
    | false =>
      rw [hc] at d
      rw [show stp S σ (.ask box_ w worth to) = { σ with n := σ.n + 1 } from if_neg (by rw [hc]; decide)]
      exact ⟨_, _, turn (S := S) ax rfl rfl tb_ask fd_ask d to fun z => nomatch z⟩
end K24

end

section
set_option maxHeartbeats 4000000
namespace K24
open PySem PySem.Spec PyProof.Rows L2 Mi
/-! ### the law's own run -/
theorem w_take_go : deq (.str "take") (.str "go") = false := by decide +kernel
theorem w_take_back : deq (.str "take") (.str "back") = false := by decide +kernel
theorem w_take_take : deq (.str "take") (.str "take") = true := by decide +kernel
theorem w_take_move : deq (.str "take") (.str "move") = false := by decide +kernel
theorem w_take_ask : deq (.str "take") (.str "ask") = false := by decide +kernel
theorem tp_take (M : MH) : inD false (.str "take") (.tup [.str "take", .str "part"]) M = .ok (.bl true) M := by rfl
theorem ms_take (M : MH) : inD false (.str "take") (.tup [.str "move", .str "skip"]) M = .ok (.bl false) M := by rfl
theorem w_part_go : deq (.str "part") (.str "go") = false := by decide +kernel
theorem w_part_back : deq (.str "part") (.str "back") = false := by decide +kernel
theorem w_part_take : deq (.str "part") (.str "take") = false := by decide +kernel
theorem w_part_move : deq (.str "part") (.str "move") = false := by decide +kernel
theorem w_part_ask : deq (.str "part") (.str "ask") = false := by decide +kernel
theorem tp_part (M : MH) : inD false (.str "part") (.tup [.str "take", .str "part"]) M = .ok (.bl true) M := by rfl
theorem ms_part (M : MH) : inD false (.str "part") (.tup [.str "move", .str "skip"]) M = .ok (.bl false) M := by rfl
theorem w_move_go : deq (.str "move") (.str "go") = false := by decide +kernel
theorem w_move_back : deq (.str "move") (.str "back") = false := by decide +kernel
theorem w_move_take : deq (.str "move") (.str "take") = false := by decide +kernel
theorem w_move_move : deq (.str "move") (.str "move") = true := by decide +kernel
theorem w_move_ask : deq (.str "move") (.str "ask") = false := by decide +kernel
theorem tp_move (M : MH) : inD false (.str "move") (.tup [.str "take", .str "part"]) M = .ok (.bl false) M := by rfl
theorem ms_move (M : MH) : inD false (.str "move") (.tup [.str "move", .str "skip"]) M = .ok (.bl true) M := by rfl
theorem w_skip_go : deq (.str "skip") (.str "go") = false := by decide +kernel
theorem w_skip_back : deq (.str "skip") (.str "back") = false := by decide +kernel
theorem w_skip_take : deq (.str "skip") (.str "take") = false := by decide +kernel
theorem w_skip_move : deq (.str "skip") (.str "move") = false := by decide +kernel
theorem w_skip_ask : deq (.str "skip") (.str "ask") = false := by decide +kernel
theorem tp_skip (M : MH) : inD false (.str "skip") (.tup [.str "take", .str "part"]) M = .ok (.bl false) M := by rfl
theorem ms_skip (M : MH) : inD false (.str "skip") (.tup [.str "move", .str "skip"]) M = .ok (.bl true) M := by rfl
theorem w_ask_go : deq (.str "ask") (.str "go") = false := by decide +kernel
theorem w_ask_back : deq (.str "ask") (.str "back") = false := by decide +kernel
theorem w_ask_take : deq (.str "ask") (.str "take") = false := by decide +kernel
theorem w_ask_move : deq (.str "ask") (.str "move") = false := by decide +kernel
theorem w_ask_ask : deq (.str "ask") (.str "ask") = true := by decide +kernel
theorem tp_ask (M : MH) : inD false (.str "ask") (.tup [.str "take", .str "part"]) M = .ok (.bl false) M := by rfl
theorem ms_ask (M : MH) : inD false (.str "ask") (.tup [.str "move", .str "skip"]) M = .ok (.bl false) M := by rfl
theorem w_go_go : deq (.str "go") (.str "go") = true := by decide +kernel
theorem w_go_back : deq (.str "go") (.str "back") = false := by decide +kernel
theorem w_go_take : deq (.str "go") (.str "take") = false := by decide +kernel
theorem w_go_move : deq (.str "go") (.str "move") = false := by decide +kernel
theorem w_go_ask : deq (.str "go") (.str "ask") = false := by decide +kernel
theorem tp_go (M : MH) : inD false (.str "go") (.tup [.str "take", .str "part"]) M = .ok (.bl false) M := by rfl
theorem ms_go (M : MH) : inD false (.str "go") (.tup [.str "move", .str "skip"]) M = .ok (.bl false) M := by rfl
theorem w_back_go : deq (.str "back") (.str "go") = false := by decide +kernel
theorem w_back_back : deq (.str "back") (.str "back") = true := by decide +kernel
theorem w_back_take : deq (.str "back") (.str "take") = false := by decide +kernel
theorem w_back_move : deq (.str "back") (.str "move") = false := by decide +kernel
theorem w_back_ask : deq (.str "back") (.str "ask") = false := by decide +kernel
theorem tp_back (M : MH) : inD false (.str "back") (.tup [.str "take", .str "part"]) M = .ok (.bl false) M := by rfl
theorem ms_back (M : MH) : inD false (.str "back") (.tup [.str "move", .str "skip"]) M = .ok (.bl false) M := by rfl
def getM (kvs : List (Key × D)) (k : Key) : Option D := (kvs.find? fun p => decide (p.1 = k)).map (·.2)
theorem getM_cons (p : Key × D) (kvs : List (Key × D)) (k : Key) : getM (p :: kvs) k = if p.1 = k then some p.2 else getM kvs k := by
  unfold getM
  rw [List.find?_cons]
  by_cases h : p.1 = k
  · rw [if_pos h, decide_eq_true h]
    rfl
  · rw [if_neg h, decide_eq_false h]
theorem get_map_ne {k k' : Key} (d : D) (ne : k ≠ k') : ∀ kvs : List (Key × D), getM (kvs.map fun kv => if kv.1 = k then (kv.1, d) else kv) k' = getM kvs k'
  | [] => rfl
  | p :: kvs => by
    rw [List.map_cons, getM_cons, getM_cons, get_map_ne d ne kvs]
    by_cases h : p.1 = k
    · rw [if_pos h]
      simp only
      rw [if_neg (fun z => ne (h.symm.trans z)), if_neg (fun z => ne (h.symm.trans z))]
    · rw [if_neg h]
theorem get_map_eq {k : Key} (d : D) : ∀ kvs : List (Key × D), (kvs.any fun kv => decide (kv.1 = k)) = true → getM (kvs.map fun kv => if kv.1 = k then (kv.1, d) else kv) k = some d
  | [], h => by cases h
  | p :: kvs, h => by
    rw [List.map_cons, getM_cons]
    by_cases e : p.1 = k
    · rw [if_pos e]
      simp only
      rw [if_pos e]
    · rw [if_neg e, if_neg e]
      refine get_map_eq d kvs ?_
      rw [List.any_cons, decide_eq_false e, Bool.false_or] at h
      exact h
theorem get_put (kvs : List (Key × D)) (k k' : Key) (d : D) : getM (putM kvs k d) k' = if k = k' then some d else getM kvs k' := by
  unfold putM
  split
  · rename_i h
    by_cases e : k = k'
    · subst e
      rw [if_pos rfl, get_map_eq d kvs h]
    · rw [if_neg e, get_map_ne d e]
  · rename_i h
    unfold getM
    rw [List.find?_append]
    by_cases e : k = k'
    · subst e
      have : kvs.find? (fun p => decide (p.1 = k)) = none := by
        rw [List.find?_eq_none]
        intro p hp hq
        exact h (List.any_eq_true.mpr ⟨p, hp, hq⟩)
      rw [this]
      simp
    · simp [e]
theorem len_put (kvs : List (Key × D)) (k : Key) (d : D) : (putM kvs k d).length ≤ kvs.length + 1 := by
  unfold putM
  split
  · rw [List.length_map]; omega
  · simp
def Agr (kvs : List (Key × D)) (bs : List Int) (dom : Nat) : Prop := ∀ j : Nat, j < dom → ∃ b, bs[j]? = some b ∧ getM kvs (.inl j) = some (.int b)
theorem Agr.put {kvs : List (Key × D)} {bs : List Int} {dom k : Nat} (a : Agr kvs bs dom) (w : Int) (hk : k < bs.length) (hd : k ≤ dom) : Agr (putM kvs (.inl k) (.int w)) (bs.set k w) (max dom (k + 1)) := fun j hj => by
  rw [get_put]
  by_cases e : k = j
  · subst e
    exact ⟨w, List.getElem?_set_self hk, if_pos rfl⟩
  · obtain ⟨b, h1, h2⟩ := a j (by omega)
    exact ⟨b, by rw [List.getElem?_set_ne e]; exact h1, by rw [if_neg (fun z => e (by have := Sum.inl.inj z; omega))]; exact h2⟩
def lenv (Rs : List Rw) (S : List Int) (σ : St) (q6 q7 q8 q9 q10 : Option D) : En := [some (.tup (Rs.map enc)), some (.tup (S.map .int)), some (.int σ.n), some (.int σ.pl), some (.int σ.seen), some (.ref 0), q6, q7, q8, q9, q10]
theorem ixM {kvs : List (Key × D)} {i : Int} {k : Nat} {d : D} (h : i = k) (e : getM kvs (.inl (k : Int)) = some d) : ixD (.ref 0) (.int i) [.dct kvs] = .ok d [.dct kvs] := by
  subst h
  have m : ([MO.dct kvs] : MH)[0]? = some (.dct kvs) := rfl
  unfold getM at e
  unfold ixD
  simp only [m, keyOf, e]
theorem putD_ok {kvs : List (Key × D)} {i : Int} {k : Nat} {d : D} (h : i = k) (hl : kvs.length < 1000000) : putD (.ref 0) (.int i) d [.dct kvs] = some [.dct (putM kvs (.inl (k : Int)) d)] := by
  subst h
  have m : ([MO.dct kvs] : MH)[0]? = some (.dct kvs) := rfl
  unfold putD
  simp only [m, keyOf]
  rw [if_pos hl]
  rfl
theorem two0 (x y : D) : atI ([x, y] : List D) 0 = some x := by rfl
theorem two1 (x y : D) : atI ([x, y] : List D) 1 = some y := by rfl
theorem six0 (a b c d e f : D) : atI ([a, b, c, d, e, f] : List D) 0 = some a := by rfl
theorem six1 (a b c d e f : D) : atI ([a, b, c, d, e, f] : List D) 1 = some b := by rfl
theorem six2 (a b c d e f : D) : atI ([a, b, c, d, e, f] : List D) 2 = some c := by rfl
theorem six3 (a b c d e f : D) : atI ([a, b, c, d, e, f] : List D) 3 = some d := by rfl
theorem six4 (a b c d e f : D) : atI ([a, b, c, d, e, f] : List D) 4 = some e := by rfl
theorem six5 (a b c d e f : D) : atI ([a, b, c, d, e, f] : List D) 5 = some f := by rfl
theorem thr0 (a b c : D) : atI ([a, b, c] : List D) 0 = some a := by rfl
theorem thr1 (a b c : D) : atI ([a, b, c] : List D) 1 = some b := by rfl
theorem thr2 (a b c : D) : atI ([a, b, c] : List D) 2 = some c := by rfl
theorem thrL (a b c : D) : atI ([a, b, c] : List D) (-1) = some c := by rfl
theorem fiv0 (a b c d e : D) : atI ([a, b, c, d, e] : List D) 0 = some a := by rfl
theorem fiv1 (a b c d e : D) : atI ([a, b, c, d, e] : List D) 1 = some b := by rfl
theorem fiv2 (a b c d e : D) : atI ([a, b, c, d, e] : List D) 2 = some c := by rfl
theorem fiv3 (a b c d e : D) : atI ([a, b, c, d, e] : List D) 3 = some d := by rfl
theorem fiv4 (a b c d e : D) : atI ([a, b, c, d, e] : List D) 4 = some e := by rfl
theorem fivL (a b c d e : D) : atI ([a, b, c, d, e] : List D) (-1) = some e := by rfl
theorem one0 (a : D) : atI ([a] : List D) 0 = some a := by rfl
theorem Agr.less {kvs : List (Key × D)} {bs : List Int} {dom dom' : Nat} (a : Agr kvs bs dom') (h : dom ≤ dom') : Agr kvs bs dom := fun j hj => a j (by omega)
theorem ixD_tup (ds : List D) (i : Int) (M : MH) : ixD (.tup ds) (.int i) M = match atI ds i with | some d => .ok d M | none => .err := rfl
theorem ixD_lst (ds : List D) (i : Int) (M : MH) : ixD (.lst ds) (.int i) M = match atI ds i with | some d => .ok d M | none => .err := rfl
/-- what stands behind a turn of the law's -/
def After (Rs : List Rw) (S : List Int) (σ : St) (r : Rw) (dom : Nat) (kvs : List (Key × D)) (res : RS) : Prop :=
  ∃ q6 q7 q8 q9 q10 kvs', res = .nx (lenv Rs S (stp S σ r) q6 q7 q8 q9 q10) [.dct kvs'] ∧ kvs'.length ≤ kvs.length + 1 ∧ Agr kvs' (stp S σ r).bs dom ∧ ∀ b m s o t, r = .take b m s o t → (stp S σ r).n = t ∨ ((stp S σ r).n = σ.n + 1 ∧ Agr kvs' (stp S σ r).bs (max dom (b.toNat + 1)))
section
variable {Rs : List Rw} {S : List Int} {σ : St} {kvs : List (Key × D)} {dom : Nat} {q6 q7 q8 q9 q10 : Option D}
theorem l_take {box more size to : Int} {o : Bool} (ax : atI (Rs.map enc) σ.n = some (enc (.take box more size o to))) (b0 : 0 ≤ box) (hb : box.toNat < σ.bs.length) (hd : box.toNat ≤ dom) (a : Agr kvs σ.bs dom) (hl : kvs.length < 1000000) :
    After Rs S σ (.take box more size o to) dom kvs (p_law_told_by_L0 (lenv Rs S σ q6 q7 q8 q9 q10) [.dct kvs]) := by
  have nb := worth_ok o (cutI S (some (σ.pl + more)) (some (σ.pl + more + size))) [.dct kvs]
  rw [← cut_map] at nb
  have hk : box = (box.toNat : Nat) := by omega
  have pd := fun d => putD_ok (d := d) hk hl
  by_cases hc : σ.pl + more + size > S.length
  · have hc' : (S.length : Int) < σ.pl + more + size := hc
    have e : stp S σ (.take box more size o to) = { σ with n := to } := if_pos hc
    unfold After
    rw [e]
    refine ⟨some (enc (.take box more size o to)), some (.int (σ.pl + more)), some (.int (σ.pl + more + size)), q9, q10, kvs, ?_, by omega, a, fun b m s o t z => .inl (by cases z; rfl)⟩
    unfold lenv
    simp [p_law_told_by_L0, ixD, ax, enc, six0, six1, six2, six3, six4, six5, two0, two1, w_take_go, w_take_back, tp_take, ms_take, w_take_take, w_take_move, w_take_ask, tupD, lstD, addD, Mi.intD, lenD, gtD, hc', mFn, bCons, bNil, cRet, cAsg, cIf, cErr, cFor, mVar, mC, m1, m2, mN, aNil, aCons, mCall, callM, picks, pick, mAnd, mOr, mAndT, mOrT, mNotT, mB, mTru, mIf, mItems, itemsD, mI, truD, notD, eqD, neD, likeD, isStr, flat, flats, cmpD, isiD, tyName, gNam, gTupD, gsCons, gsNil, lim_n]
  · have hc' : ¬ (S.length : Int) < σ.pl + more + size := hc
    have e : stp S σ (.take box more size o to) = ⟨σ.n + 1, σ.pl, max σ.seen (σ.pl + more + size), σ.bs.set box.toNat (val o (cutI S (some (σ.pl + more)) (some (σ.pl + more + size))))⟩ := if_neg hc
    unfold After
    rw [e]
    have ap := a.put (val o (cutI S (some (σ.pl + more)) (some (σ.pl + more + size)))) hb hd
    refine ⟨some (enc (.take box more size o to)), some (.int (σ.pl + more)), some (.int (σ.pl + more + size)), q9, q10, putM kvs (.inl (box.toNat : Int)) (.int (val o (cutI S (some (σ.pl + more)) (some (σ.pl + more + size))))), ?_, len_put _ _ _, ap.less (by omega), fun b m s o t z => .inr ⟨rfl, by cases z; exact ap⟩⟩
    unfold lenv
    simp [p_law_told_by_L0, ixD, ax, enc, six0, six1, six2, six3, six4, six5, two0, two1, w_take_go, w_take_back, tp_take, ms_take, w_take_take, w_take_move, w_take_ask, tupD, lstD, addD, Mi.intD, lenD, gtD, hc', cPut, mSl, mPart, sliceD, nb, pd, max2D, mFn, bCons, bNil, cRet, cAsg, cIf, cErr, cFor, mVar, mC, m1, m2, mN, aNil, aCons, mCall, callM, picks, pick, mAnd, mOr, mAndT, mOrT, mNotT, mB, mTru, mIf, mItems, itemsD, mI, truD, notD, eqD, neD, likeD, isStr, flat, flats, cmpD, isiD, tyName, gNam, gTupD, gsCons, gsNil, lim_n]
theorem l_part {box more shift width to : Int} (ax : atI (Rs.map enc) σ.n = some (enc (.part box more shift width to))) (b0 : 0 ≤ box) (hb : box.toNat < σ.bs.length) (hd : box.toNat ≤ dom) (a : Agr kvs σ.bs dom) (hl : kvs.length < 1000000) (s0 : 0 ≤ shift) (w0 : 1 ≤ width) (w1 : width ≤ 8) (hp : 0 ≤ σ.pl + more) :
    After Rs S σ (.part box more shift width to) dom kvs (p_law_told_by_L0 (lenv Rs S σ q6 q7 q8 q9 q10) [.dct kvs]) := by
  have hk : box = (box.toNat : Nat) := by omega
  have pd := fun d => putD_ok (d := d) hk hl
  by_cases hc : σ.pl + more ≥ S.length
  · have hc' : (S.length : Int) < σ.pl + more + 1 := by omega
    have e : stp S σ (.part box more shift width to) = { σ with n := to } := if_pos hc
    unfold After
    rw [e]
    refine ⟨some (enc (.part box more shift width to)), some (.int (σ.pl + more)), some (.int (σ.pl + more + 1)), q9, q10, kvs, ?_, by omega, a, fun b m s o t z => by cases z⟩
    unfold lenv
    simp [p_law_told_by_L0, ixD, ax, enc, six0, six1, six2, six3, six4, six5, two0, two1, w_part_go, w_part_back, tp_part, ms_part, w_part_take, w_part_move, w_part_ask, tupD, lstD, addD, Mi.intD, lenD, gtD, hc', mFn, bCons, bNil, cRet, cAsg, cIf, cErr, cFor, mVar, mC, m1, m2, mN, aNil, aCons, mCall, callM, picks, pick, mAnd, mOr, mAndT, mOrT, mNotT, mB, mTru, mIf, mItems, itemsD, mI, truD, notD, eqD, neD, likeD, isStr, flat, flats, cmpD, isiD, tyName, gNam, gTupD, gsCons, gsNil, lim_n]
  · have hc' : ¬ (S.length : Int) < σ.pl + more + 1 := by omega
    have e : stp S σ (.part box more shift width to) = ⟨σ.n + 1, σ.pl, max σ.seen (σ.pl + more + 1), σ.bs.set box.toNat (S.getD (σ.pl + more).toNat 0 / 2 ^ shift.toNat % 2 ^ width.toNat)⟩ := if_neg hc
    unfold After
    rw [e]
    have hx : S[(σ.pl + more).toNat]? = some (S.getD (σ.pl + more).toNat 0) := by
      rw [List.getD_eq_getElem?_getD, List.getElem?_eq_getElem (by omega)]
      rfl
    have sx := atI_int (i := σ.pl + more) (k := (σ.pl + more).toNat) (by omega) hx
    generalize S.getD (σ.pl + more).toNat 0 = X at sx ⊢
    have w2 : width ≤ 1000000 := by omega
    have w3 : 0 ≤ width := by omega
    have w4 : (0 : Int) < 2 ^ width.toNat := Int.pow_pos (by decide)
    have ap := a.put (X / 2 ^ shift.toNat % 2 ^ width.toNat) hb hd
    refine ⟨some (enc (.part box more shift width to)), some (.int (σ.pl + more)), some (.int (σ.pl + more + 1)), q9, q10, putM kvs (.inl (box.toNat : Int)) (.int (X / 2 ^ shift.toNat % 2 ^ width.toNat)), ?_, len_put _ _ _, ap.less (by omega), fun b m s o t z => by cases z⟩
    unfold lenv
    simp [p_law_told_by_L0, ixD, ax, enc, six0, six1, six2, six3, six4, six5, two0, two1, w_part_go, w_part_back, tp_part, ms_part, w_part_take, w_part_move, w_part_ask, tupD, lstD, addD, Mi.intD, lenD, gtD, hc', cPut, sx, shrD, shlD, modD, int2, s0, w2, w3, w4, pd, max2D, mFn, bCons, bNil, cRet, cAsg, cIf, cErr, cFor, mVar, mC, m1, m2, mN, aNil, aCons, mCall, callM, picks, pick, mAnd, mOr, mAndT, mOrT, mNotT, mB, mTru, mIf, mItems, itemsD, mI, truD, notD, eqD, neD, likeD, isStr, flat, flats, cmpD, isiD, tyName, gNam, gTupD, gsCons, gsNil, lim_n]
theorem l_move {x to : Int} (ax : atI (Rs.map enc) σ.n = some (enc (.move x to))) (a : Agr kvs σ.bs dom) :
    After Rs S σ (.move x to) dom kvs (p_law_told_by_L0 (lenv Rs S σ q6 q7 q8 q9 q10) [.dct kvs]) := by
  by_cases hc : x < 0 ∨ σ.pl + x > S.length
  · have e : stp S σ (.move x to) = { σ with n := to } := if_pos hc
    unfold After
    rw [e]
    refine ⟨some (enc (.move x to)), q7, q8, some (.int x), q10, kvs, ?_, by omega, a, fun b m s o t z => by cases z⟩
    unfold lenv
    by_cases h1 : x < 0
    · simp [p_law_told_by_L0, ixD, ax, enc, thr0, thr1, thr2, thrL, w_move_go, w_move_back, tp_move, ms_move, w_move_take, w_move_move, w_move_ask, tupD, addD, lenD, gtD, ltD, h1, negD, mFn, bCons, bNil, cRet, cAsg, cIf, cErr, cFor, mVar, mC, m1, m2, mN, aNil, aCons, mCall, callM, picks, pick, mAnd, mOr, mAndT, mOrT, mNotT, mB, mTru, mIf, mItems, itemsD, mI, truD, notD, eqD, neD, likeD, isStr, flat, flats, cmpD, isiD, tyName, gNam, gTupD, gsCons, gsNil, lim_n]
    · have h2 : (S.length : Int) < σ.pl + x := by omega
      simp [p_law_told_by_L0, ixD, ax, enc, thr0, thr1, thr2, thrL, w_move_go, w_move_back, tp_move, ms_move, w_move_take, w_move_move, w_move_ask, tupD, addD, lenD, gtD, ltD, h1, h2, negD, mFn, bCons, bNil, cRet, cAsg, cIf, cErr, cFor, mVar, mC, m1, m2, mN, aNil, aCons, mCall, callM, picks, pick, mAnd, mOr, mAndT, mOrT, mNotT, mB, mTru, mIf, mItems, itemsD, mI, truD, notD, eqD, neD, likeD, isStr, flat, flats, cmpD, isiD, tyName, gNam, gTupD, gsCons, gsNil, lim_n]
  · have e : stp S σ (.move x to) = ⟨σ.n + 1, σ.pl + x, σ.seen, σ.bs⟩ := if_neg hc
    unfold After
    rw [e]
    refine ⟨some (enc (.move x to)), q7, q8, some (.int x), q10, kvs, ?_, by omega, a, fun b m s o t z => by cases z⟩
    unfold lenv
    have h1 : ¬ x < 0 := by omega
    have h2 : ¬ (S.length : Int) < σ.pl + x := by omega
    simp [p_law_told_by_L0, ixD, ax, enc, thr0, thr1, thr2, thrL, w_move_go, w_move_back, tp_move, ms_move, w_move_take, w_move_move, w_move_ask, tupD, addD, lenD, gtD, ltD, h1, h2, negD, mFn, bCons, bNil, cRet, cAsg, cIf, cErr, cFor, mVar, mC, m1, m2, mN, aNil, aCons, mCall, callM, picks, pick, mAnd, mOr, mAndT, mOrT, mNotT, mB, mTru, mIf, mItems, itemsD, mI, truD, notD, eqD, neD, likeD, isStr, flat, flats, cmpD, isiD, tyName, gNam, gTupD, gsCons, gsNil, lim_n]
theorem l_skip {box times more to : Int} (ax : atI (Rs.map enc) σ.n = some (enc (.skip box times more to))) (b0 : 0 ≤ box) (hd : box.toNat < dom) (t0 : 1 ≤ times) (t1 : times ≤ 3) (a : Agr kvs σ.bs dom) :
    After Rs S σ (.skip box times more to) dom kvs (p_law_told_by_L0 (lenv Rs S σ q6 q7 q8 q9 q10) [.dct kvs]) := by
  have hk : box = (box.toNat : Nat) := by omega
  obtain ⟨b, g1, g2⟩ := a _ hd
  have gd : σ.bs.getD box.toNat 0 = b := by rw [List.getD_eq_getElem?_getD, g1]; rfl
  have xm := ixM hk g2
  have ml : mulD (.int b) (.int times) [.dct kvs] = .ok (.int (b * times)) [.dct kvs] := mulR (by omega)
  by_cases hc : b * times + more < 0 ∨ σ.pl + (b * times + more) > S.length
  · have e : stp S σ (.skip box times more to) = { σ with n := to } := if_pos (by rw [gd]; exact hc)
    unfold After
    rw [e]
    refine ⟨some (enc (.skip box times more to)), q7, q8, some (.int (b * times + more)), q10, kvs, ?_, by omega, a, fun b m s o t z => by cases z⟩
    unfold lenv
    by_cases h1 : b * times + more < 0
    · simp [p_law_told_by_L0, ixD_tup, ixD_lst, xm, ax, enc, fiv0, fiv1, fiv2, fiv3, fiv4, fivL, w_skip_go, w_skip_back, tp_skip, ms_skip, w_skip_take, w_skip_move, w_skip_ask, tupD, addD, lenD, gtD, ltD, h1, negD, ml, mFn, bCons, bNil, cRet, cAsg, cIf, cErr, cFor, mVar, mC, m1, m2, mN, aNil, aCons, mCall, callM, picks, pick, mAnd, mOr, mAndT, mOrT, mNotT, mB, mTru, mIf, mItems, itemsD, mI, truD, notD, eqD, neD, likeD, isStr, flat, flats, cmpD, isiD, tyName, gNam, gTupD, gsCons, gsNil, lim_n]
    · have h2 : (S.length : Int) < σ.pl + (b * times + more) := by omega
      simp [p_law_told_by_L0, ixD_tup, ixD_lst, xm, ax, enc, fiv0, fiv1, fiv2, fiv3, fiv4, fivL, w_skip_go, w_skip_back, tp_skip, ms_skip, w_skip_take, w_skip_move, w_skip_ask, tupD, addD, lenD, gtD, ltD, h1, h2, negD, ml, mFn, bCons, bNil, cRet, cAsg, cIf, cErr, cFor, mVar, mC, m1, m2, mN, aNil, aCons, mCall, callM, picks, pick, mAnd, mOr, mAndT, mOrT, mNotT, mB, mTru, mIf, mItems, itemsD, mI, truD, notD, eqD, neD, likeD, isStr, flat, flats, cmpD, isiD, tyName, gNam, gTupD, gsCons, gsNil, lim_n]
  · have e : stp S σ (.skip box times more to) = ⟨σ.n + 1, σ.pl + (b * times + more), σ.seen, σ.bs⟩ := by
      rw [← gd]
      exact if_neg (by rw [gd]; exact hc)
    unfold After
    rw [e]
    refine ⟨some (enc (.skip box times more to)), q7, q8, some (.int (b * times + more)), q10, kvs, ?_, by omega, a, fun b m s o t z => by cases z⟩
    unfold lenv
    have h1 : ¬ b * times + more < 0 := by omega
    have h2 : ¬ (S.length : Int) < σ.pl + (b * times + more) := by omega
    simp [p_law_told_by_L0, ixD_tup, ixD_lst, xm, ax, enc, fiv0, fiv1, fiv2, fiv3, fiv4, fivL, w_skip_go, w_skip_back, tp_skip, ms_skip, w_skip_take, w_skip_move, w_skip_ask, tupD, addD, lenD, gtD, ltD, h1, h2, negD, ml, mFn, bCons, bNil, cRet, cAsg, cIf, cErr, cFor, mVar, mC, m1, m2, mN, aNil, aCons, mCall, callM, picks, pick, mAnd, mOr, mAndT, mOrT, mNotT, mB, mTru, mIf, mItems, itemsD, mI, truD, notD, eqD, neD, likeD, isStr, flat, flats, cmpD, isiD, tyName, gNam, gTupD, gsCons, gsNil, lim_n]
theorem l_go {to : Int} (ax : atI (Rs.map enc) σ.n = some (enc (.go to))) (a : Agr kvs σ.bs dom) :
    After Rs S σ (.go to) dom kvs (p_law_told_by_L0 (lenv Rs S σ q6 q7 q8 q9 q10) [.dct kvs]) := by
  have e : stp S σ (.go to) = { σ with n := to } := rfl
  unfold After
  rw [e]
  refine ⟨some (enc (.go to)), q7, q8, q9, q10, kvs, ?_, by omega, a, fun b m s o t z => by cases z⟩
  unfold lenv
  simp [p_law_told_by_L0, ixD, ax, enc, two0, two1, w_go_go, w_go_back, tp_go, ms_go, w_go_take, w_go_move, w_go_ask, tupD, addD, mFn, bCons, bNil, cRet, cAsg, cIf, cErr, cFor, mVar, mC, m1, m2, mN, aNil, aCons, mCall, callM, picks, pick, mAnd, mOr, mAndT, mOrT, mNotT, mB, mTru, mIf, mItems, itemsD, mI, truD, notD, eqD, neD, likeD, isStr, flat, flats, cmpD, isiD, tyName, gNam, gTupD, gsCons, gsNil, lim_n]
theorem l_back (ax : atI (Rs.map enc) σ.n = some (enc .back)) (a : Agr kvs σ.bs dom) :
    After Rs S σ .back dom kvs (p_law_told_by_L0 (lenv Rs S σ q6 q7 q8 q9 q10) [.dct kvs]) := by
  have e : stp S σ .back = ⟨σ.n + 1, 0, σ.seen, σ.bs⟩ := rfl
  unfold After
  rw [e]
  refine ⟨some (enc .back), q7, q8, q9, q10, kvs, ?_, by omega, a, fun b m s o t z => by cases z⟩
  unfold lenv
  simp [p_law_told_by_L0, ixD, ax, enc, one0, w_back_go, w_back_back, tp_back, ms_back, w_back_take, w_back_move, w_back_ask, tupD, addD, mFn, bCons, bNil, cRet, cAsg, cIf, cErr, cFor, mVar, mC, m1, m2, mN, aNil, aCons, mCall, callM, picks, pick, mAnd, mOr, mAndT, mOrT, mNotT, mB, mTru, mIf, mItems, itemsD, mI, truD, notD, eqD, neD, likeD, isStr, flat, flats, cmpD, isiD, tyName, gNam, gTupD, gsCons, gsNil, lim_n]
theorem ix3 (w : Nat) (hw : w < 3) (M : MH) : indexD (.lst [.str "same", .str "less", .str "more"]) [asks w] M = .ok (.int w) M := by
  rcases (by omega : w = 0 ∨ w = 1 ∨ w = 2) with rfl | rfl | rfl <;> rfl
theorem at3 (w : Nat) (hw : w < 3) (b worth : Int) : atI ([.bl (decide (b = worth)), .bl (decide (b < worth)), .bl (decide (worth < b))] : List D) (w : Int) = some (.bl (asksB w b worth)) := by
  rcases (by omega : w = 0 ∨ w = 1 ∨ w = 2) with rfl | rfl | rfl <;> rfl
theorem l_ask {box worth to : Int} {w : Nat} (ax : atI (Rs.map enc) σ.n = some (enc (.ask box w worth to))) (b0 : 0 ≤ box) (hd : box.toNat < dom) (hw : w < 3) (a : Agr kvs σ.bs dom) :
    After Rs S σ (.ask box w worth to) dom kvs (p_law_told_by_L0 (lenv Rs S σ q6 q7 q8 q9 q10) [.dct kvs]) := by
  have hk : box = (box.toNat : Nat) := by omega
  obtain ⟨b, g1, g2⟩ := a _ hd
  have gd : σ.bs.getD box.toNat 0 = b := by rw [List.getD_eq_getElem?_getD, g1]; rfl
  have xm := ixM hk g2
  have i3 := ix3 w hw
  have a3 := at3 w hw b worth
  cases hc : asksB w b worth with
  | true =>
    have e : stp S σ (.ask box w worth to) = { σ with n := to } := if_pos (by rw [gd]; exact hc)
    unfold After
    rw [e]
    refine ⟨some (enc (.ask box w worth to)), q7, q8, q9, some (.int b), kvs, ?_, by omega, a, fun b m s o t z => by cases z⟩
    unfold lenv
    rw [hc] at a3
    simp [p_law_told_by_L0, ixD_tup, ixD_lst, xm, ax, enc, fiv0, fiv1, fiv2, fiv3, fiv4, fivL, w_ask_go, w_ask_back, tp_ask, ms_ask, w_ask_take, w_ask_move, w_ask_ask, tupD, lstD, addD, gtD, ltD, deq_int, mMt, rcv, i3, a3, mFn, bCons, bNil, cRet, cAsg, cIf, cErr, cFor, mVar, mC, m1, m2, mN, aNil, aCons, mCall, callM, picks, pick, mAnd, mOr, mAndT, mOrT, mNotT, mB, mTru, mIf, mItems, itemsD, mI, truD, notD, eqD, neD, likeD, isStr, flat, flats, cmpD, isiD, tyName, gNam, gTupD, gsCons, gsNil, lim_n]
  | false =>
    have e : stp S σ (.ask box w worth to) = { σ with n := σ.n + 1 } := if_neg (by rw [gd, hc]; decide)
    unfold After
    rw [e]
    refine ⟨some (enc (.ask box w worth to)), q7, q8, q9, some (.int b), kvs, ?_, by omega, a, fun b m s o t z => by cases z⟩
    unfold lenv
    rw [hc] at a3
    simp [p_law_told_by_L0, ixD_tup, ixD_lst, xm, ax, enc, fiv0, fiv1, fiv2, fiv3, fiv4, fivL, w_ask_go, w_ask_back, tp_ask, ms_ask, w_ask_take, w_ask_move, w_ask_ask, tupD, lstD, addD, gtD, ltD, deq_int, mMt, rcv, i3, a3, mFn, bCons, bNil, cRet, cAsg, cIf, cErr, cFor, mVar, mC, m1, m2, mN, aNil, aCons, mCall, callM, picks, pick, mAnd, mOr, mAndT, mOrT, mNotT, mB, mTru, mIf, mItems, itemsD, mI, truD, notD, eqD, neD, likeD, isStr, flat, flats, cmpD, isiD, tyName, gNam, gTupD, gsCons, gsNil, lim_n]
end
end K24

end

section
set_option maxHeartbeats 4000000
namespace K24
open PySem PySem.Spec PyProof.Rows L2 Mi
/-! ### both runs -/
theorem stp_facts {S : List Int} {σ : St} {r : Rw} {many : Int} (g : Good σ.n many r) (nf : ∀ b, r ≠ .fin b) (hp : 0 ≤ σ.pl) : ((stp S σ r).n = σ.n + 1 ∨ (σ.n < (stp S σ r).n ∧ (stp S σ r).n < many)) ∧ 0 ≤ (stp S σ r).pl ∧ (stp S σ r).bs.length = σ.bs.length := by
  cases r with
  | take box more size o to =>
    unfold Good at g
    unfold stp
    simp only
    split
    · exact ⟨.inr ⟨by simp only; omega, by simp only; omega⟩, hp, rfl⟩
    · exact ⟨.inl rfl, hp, by simp only [List.length_set]⟩
  | part box more shift width to =>
    unfold Good at g
    unfold stp
    simp only
    split
    · exact ⟨.inr ⟨by simp only; omega, by simp only; omega⟩, hp, rfl⟩
    · exact ⟨.inl rfl, hp, by simp only [List.length_set]⟩
  | move k to =>
    unfold Good at g
    unfold stp
    simp only
    split
    · exact ⟨.inr ⟨by simp only; omega, by simp only; omega⟩, hp, rfl⟩
    · exact ⟨.inl rfl, by simp only; omega, rfl⟩
  | skip box times more to =>
    unfold Good at g
    unfold stp
    simp only
    split
    · exact ⟨.inr ⟨by simp only; omega, by simp only; omega⟩, hp, rfl⟩
    · rename_i h
      refine ⟨.inl rfl, ?_, rfl⟩
      simp only
      omega
  | go to =>
    unfold Good at g
    exact ⟨.inr ⟨g.1, g.2⟩, hp, rfl⟩
  | back => exact ⟨.inl rfl, Int.le_refl 0, rfl⟩
  | fin b => exact absurd rfl (nf b)
  | ask box w worth to =>
    unfold Good at g
    unfold stp
    simp only
    split
    · exact ⟨.inr ⟨by simp only; omega, by simp only; omega⟩, hp, rfl⟩
    · exact ⟨.inl rfl, hp, rfl⟩
theorem stp_seen {S : List Int} {σ : St} {r : Rw} {many : Int} (g : Good σ.n many r) (hp : 0 ≤ σ.pl) (hs : 0 ≤ σ.seen ∧ σ.seen ≤ S.length) : 0 ≤ (stp S σ r).seen ∧ (stp S σ r).seen ≤ S.length := by
  cases r with
  | take box more size o to =>
    unfold Good at g
    unfold stp
    simp only
    split
    · exact hs
    · simp only
      omega
  | part box more shift width to =>
    unfold Good at g
    unfold stp
    simp only
    split
    · exact hs
    · simp only
      omega
  | move k to =>
    unfold stp
    simp only
    split <;> exact hs
  | skip box times more to =>
    unfold stp
    simp only
    split <;> exact hs
  | go to => exact hs
  | back => exact hs
  | fin b => exact hs
  | ask box w worth to =>
    unfold stp
    simp only
    split <;> exact hs
structure Ok24 (Rs : List Rw) (σ : St) (dom : Nat) (kvs : List (Key × D)) : Prop where
  n0 : 0 ≤ σ.n
  n1 : σ.n < Rs.length
  pl : 0 ≤ σ.pl
  bl : 3 ≤ σ.bs.length
  ag : Agr kvs σ.bs dom
  kl : (kvs.length : Int) ≤ σ.n
  cond : (σ.n < 3 ∧ (dom : Int) = σ.n) ∨ dom = 3 ∨ ∃ b, Rs[σ.n.toNat]? = some (.fin b)
theorem l_step {Rs : List Rw} {S : List Int} {σ : St} {r : Rw} {dom : Nat} {kvs : List (Key × D)} (W : Drawn Rs) (I : Ok24 Rs σ dom kvs) (hr : Rs[σ.n.toNat]? = some r) (nf : ∀ b, r ≠ .fin b) (q6 q7 q8 q9 q10 : Option D) :
    After Rs S σ r dom kvs (p_law_told_by_L0 (lenv Rs S σ q6 q7 q8 q9 q10) [.dct kvs]) := by
  have hn : σ.n = (σ.n.toNat : Nat) := by have := I.n0; omega
  have ax : atI (Rs.map enc) σ.n = some (enc r) := atI_of hn (by rw [List.getElem?_map, hr]; rfl)
  have g := W.good _ _ hr
  have g : Good σ.n Rs.length r := by rw [← hn] at g; exact g
  have hl : kvs.length < 1000000 := by have := I.kl; have := I.n1; have := W.hi; omega
  have pl := I.pl
  have bl := I.bl
  rcases I.cond with ⟨c1, c2⟩ | c | ⟨b, c⟩
  · obtain ⟨more, size, o, rfl, g1, g2, g3, g4⟩ := W.fst _ _ (by omega) hr
    exact l_take ax (by omega) (by omega) (by omega) I.ag hl
  · subst c
    cases r with
    | take box more size o to => unfold Good at g; exact l_take ax (by omega) (by omega) (by omega) I.ag hl
    | part box more shift width to => unfold Good at g; exact l_part ax (by omega) (by omega) (by omega) I.ag hl (by omega) (by omega) (by omega) (by omega)
    | move k to => exact l_move ax I.ag
    | skip box times more to => unfold Good at g; exact l_skip ax (by omega) (by omega) (by omega) (by omega) I.ag
    | go to => exact l_go ax I.ag
    | back => exact l_back ax I.ag
    | fin b => exact absurd rfl (nf b)
    | ask box w worth to => unfold Good at g; exact l_ask ax (by omega) (by omega) (by omega) I.ag
  · rw [hr] at c
    cases c
    exact absurd rfl (nf b)
abbrev ptest : MT := mB (m2 neD (m2 ixD (m2 ixD (mVar 0) (mVar 3)) (mC (.int 0))) (mC (.str "end")))
abbrev ltest : MT := mB (m2 neD (m2 ixD (m2 ixD (mVar 0) (mVar 2)) (mC (.int 0))) (mC (.str "end")))
def isFin : Rw → Bool
  | .fin _ => true
  | _ => false
theorem head_of (r : Rw) : ∃ ds w, enc r = .tup ds ∧ atI ds 0 = some (.str w) ∧ deq (.str w) (.str "end") = isFin r := by
  cases r with
  | take => exact ⟨_, _, rfl, rfl, show deq (.str "take") (.str "end") = false by decide +kernel⟩
  | part => exact ⟨_, _, rfl, rfl, show deq (.str "part") (.str "end") = false by decide +kernel⟩
  | move => exact ⟨_, _, rfl, rfl, show deq (.str "move") (.str "end") = false by decide +kernel⟩
  | skip => exact ⟨_, _, rfl, rfl, show deq (.str "skip") (.str "end") = false by decide +kernel⟩
  | go => exact ⟨_, _, rfl, rfl, show deq (.str "go") (.str "end") = false by decide +kernel⟩
  | back => exact ⟨_, _, rfl, rfl, show deq (.str "back") (.str "end") = false by decide +kernel⟩
  | fin => exact ⟨_, _, rfl, rfl, show deq (.str "end") (.str "end") = true by decide +kernel⟩
  | ask => exact ⟨_, _, rfl, rfl, show deq (.str "ask") (.str "end") = false by decide +kernel⟩
theorem p_test {Rs : List Rw} {S : List Int} {n : Int} {r : Rw} {o4 o5 : Option D} {M : MH} (ax : atI (Rs.map enc) n = some (enc r)) : ptest (penv Rs S n o4 o5) M = .ok (!isFin r) M := by
  obtain ⟨ds, w, e, a0, d⟩ := head_of r
  unfold penv
  simp [ixD, ax, e, a0, d, mFn, bCons, bNil, cRet, cAsg, cIf, cErr, cFor, mVar, mC, m1, m2, mN, aNil, aCons, mCall, callM, picks, pick, mAnd, mOr, mAndT, mOrT, mNotT, mB, mTru, mIf, mItems, itemsD, mI, truD, notD, eqD, neD, likeD, isStr, flat, flats, cmpD, isiD, tyName, gNam, gTupD, gsCons, gsNil, lim_n]
theorem l_test {Rs : List Rw} {S : List Int} {σ : St} {r : Rw} {q6 q7 q8 q9 q10 : Option D} {M : MH} (ax : atI (Rs.map enc) σ.n = some (enc r)) : ltest (lenv Rs S σ q6 q7 q8 q9 q10) M = .ok (!isFin r) M := by
  obtain ⟨ds, w, e, a0, d⟩ := head_of r
  unfold lenv
  simp [ixD, ax, e, a0, d, mFn, bCons, bNil, cRet, cAsg, cIf, cErr, cFor, mVar, mC, m1, m2, mN, aNil, aCons, mCall, callM, picks, pick, mAnd, mOr, mAndT, mOrT, mNotT, mB, mTru, mIf, mItems, itemsD, mI, truD, notD, eqD, neD, likeD, isStr, flat, flats, cmpD, isiD, tyName, gNam, gTupD, gsCons, gsNil, lim_n]
theorem both {Rs : List Rw} {S : List Int} (W : Drawn Rs) : ∀ (m : Nat) (σ : St) (dom : Nat) (kvs : List (Key × D)) (o4 o5 q6 q7 q8 q9 q10 : Option D), Ok24 Rs σ dom kvs → (0 ≤ σ.seen ∧ σ.seen ≤ S.length) → (Rs.length : Int) - σ.n < m →
    ∃ (σ' : St) (b : Bool) (kvs' : List (Key × D)) (p4 p5 r6 r7 r8 r9 r10 : Option D), (0 ≤ σ'.seen ∧ σ'.seen ≤ S.length) ∧ Rs[σ'.n.toNat]? = some (.fin b) ∧ 0 ≤ σ'.n ∧ whGo ptest p_run_L0 m (penv Rs S σ.n o4 o5) (PM S σ.bs σ.pl σ.seen) = .nx (penv Rs S σ'.n p4 p5) (PM S σ'.bs σ'.pl σ'.seen) ∧
      whGo ltest p_law_told_by_L0 m (lenv Rs S σ q6 q7 q8 q9 q10) [.dct kvs] = .nx (lenv Rs S σ' r6 r7 r8 r9 r10) [.dct kvs']
  | 0, σ, dom, kvs, o4, o5, q6, q7, q8, q9, q10, I, hs, h => by
    have := I.n1
    omega
  | m + 1, σ, dom, kvs, o4, o5, q6, q7, q8, q9, q10, I, hs, h => by
    have n0 := I.n0
    have n1 := I.n1
    have hn : σ.n = (σ.n.toNat : Nat) := by omega
    have hr : Rs[σ.n.toNat]? = some Rs[σ.n.toNat] := List.getElem?_eq_getElem (by omega)
    generalize Rs[σ.n.toNat] = r at hr
    have ax : atI (Rs.map enc) σ.n = some (enc r) := atI_of hn (by rw [List.getElem?_map, hr]; rfl)
    have pt := fun M => p_test (S := S) (o4 := o4) (o5 := o5) (M := M) ax
    have lt := fun M => l_test (S := S) (q6 := q6) (q7 := q7) (q8 := q8) (q9 := q9) (q10 := q10) (M := M) ax
    by_cases hf : ∃ b, r = .fin b
    · obtain ⟨b, rfl⟩ := hf
      refine ⟨σ, b, kvs, o4, o5, q6, q7, q8, q9, q10, hs, hr, n0, ?_, ?_⟩
      · unfold whGo
        rw [pt]
        rfl
      · unfold whGo
        rw [lt]
        rfl
    · have nf : ∀ b, r ≠ .fin b := fun b e => hf ⟨b, e⟩
      have fb : isFin r = false := by
        cases r <;> first | rfl | (exact absurd rfl (nf _))
      have g := W.good _ _ hr
      have g : Good σ.n Rs.length r := by rw [← hn] at g; exact g
      obtain ⟨p4, p5, ps⟩ := p_step (S := S) hn hr g nf I.bl I.pl o4 o5
      obtain ⟨r6, r7, r8, r9, r10, kvs', ls, kl, ag, tk⟩ := l_step (S := S) W I hr nf q6 q7 q8 q9 q10
      obtain ⟨sn, sp, sb⟩ := stp_facts (S := S) g nf I.pl
      obtain ⟨bl, lastf⟩ := W.last
      have notlast : σ.n + 1 < Rs.length := by
        by_cases z : σ.n + 1 < Rs.length
        · exact z
        · have e : σ.n.toNat = Rs.length - 1 := by omega
          rw [e, lastf] at hr
          cases hr
          exact absurd rfl (nf bl)
      have I2 : ∃ dom', Ok24 Rs (stp S σ r) dom' kvs' := by
        have kl2 := I.kl
        have bl2 := I.bl
        rcases I.cond with ⟨c1, c2⟩ | c | ⟨b, c⟩
        · obtain ⟨more, size, o, er, g1, g2, g3, g4⟩ := W.fst _ _ (by omega) hr
          rcases tk _ _ _ _ _ er with z | ⟨z, z2⟩
          · refine ⟨dom, by omega, by omega, sp, by omega, ag, by omega, .inr (.inr ⟨bl, ?_⟩)⟩
            rw [z, show ((Rs.length : Int) - 1).toNat = Rs.length - 1 by omega]
            exact lastf
          · refine ⟨dom + 1, by omega, by omega, sp, by omega, z2.less (by omega), by omega, ?_⟩
            by_cases y : σ.n + 1 < 3
            · exact .inl ⟨by omega, by omega⟩
            · exact .inr (.inl (by omega))
        · exact ⟨dom, by omega, by omega, sp, by omega, ag, by omega, .inr (.inl c)⟩
        · rw [hr] at c
          cases c
          exact absurd rfl (nf b)
      obtain ⟨dom', I2⟩ := I2
      obtain ⟨σ', b, kvs2, a4, a5, b6, b7, b8, b9, b10, e0, e1, e2, e3, e4⟩ := both W m (stp S σ r) dom' kvs' p4 p5 r6 r7 r8 r9 r10 I2 (stp_seen g I.pl hs) (by omega)
      refine ⟨σ', b, kvs2, a4, a5, b6, b7, b8, b9, b10, e0, e1, e2, ?_, ?_⟩
      · unfold whGo
        rw [pt, fb]
        simp only [andS, Bool.not_false, if_true]
        rw [ps]
        exact e3
      · unfold whGo
        rw [lt, fb]
        simp only [andS, Bool.not_false, if_true]
        rw [ls]
        exact e4
end K24

end

section
set_option maxHeartbeats 4000000
namespace K24
open PySem PySem.Spec PyProof.Rows L2 Mi
/-! ### what is shown is short -/
def leaf : D → Bool
  | .int i => decide (i.natAbs < 1000)
  | .str x => PyData.strOk x && (x.cps.toList.all fun c => decide (c < 16 ^ 8)) && decide (x.cps.size ≤ 8)
  | .bl _ => true
  | _ => false
theorem leaf_ok {d : D} (n : Nat) (h : leaf d = true) : flat d n = true ∧ PyData.showable (py d) = true ∧ PyData.leavesShort 13 (py d) = true ∧ PyData.weight (py d) ≤ 10 := by
  cases d with
  | int i =>
    have hi : i.natAbs < 1000 := of_decide_eq_true h
    have lg : i.natAbs.log2 < 10 := lg_of (by omega) (by decide)
    have sl := PyData.shown_int_le (i := i) (by omega)
    refine ⟨by unfold flat; rfl, ?_, ?_, ?_⟩
    · show decide (i.natAbs.log2 < 1920) = true
      exact decide_eq_true (by omega)
    · show decide ((PyData.shown (.int i)).length ≤ 13) = true
      exact decide_eq_true sl
    · show (if i == 0 then 0 else i.natAbs.log2 + 1) ≤ 10
      split <;> omega
  | str x =>
    have h : (PyData.strOk x && (x.cps.toList.all fun c => decide (c < 16 ^ 8)) && decide (x.cps.size ≤ 8)) = true := h
    rw [Bool.and_eq_true, Bool.and_eq_true, decide_eq_true_eq] at h
    obtain ⟨⟨h1, h2⟩, h3⟩ := h
    refine ⟨by unfold flat; exact h1, rfl, h2, ?_⟩
    show x.cps.size ≤ 10
    omega
  | bl b => exact ⟨by unfold flat; rfl, rfl, rfl, Nat.zero_le _⟩
  | _ => cases h
theorem leaves_ok (n : Nat) : ∀ {ds : List D}, ds.all leaf = true → flats ds n = true ∧ PyData.showableAll (pys ds) = true ∧ PyData.leavesShortAll 13 (pys ds) = true ∧ PyData.weightAll (pys ds) ≤ 11 * ds.length
  | [], _ => ⟨by unfold flats; rfl, rfl, rfl, Nat.le_refl 0⟩
  | d :: ds, h => by
    rw [List.all_cons, Bool.and_eq_true] at h
    obtain ⟨a1, a2, a3, a4⟩ := leaf_ok n h.1
    obtain ⟨b1, b2, b3, b4⟩ := leaves_ok n h.2
    refine ⟨by unfold flats; rw [a1, b1]; rfl, ?_, ?_, ?_⟩
    · show (PyData.showable (py d) && PyData.showableAll (pys ds)) = true
      rw [a2, b2]; rfl
    · show (PyData.leavesShort 13 (py d) && PyData.leavesShortAll 13 (pys ds)) = true
      rw [a3, b3]; rfl
    · show PyData.weight (py d) + 1 + PyData.weightAll (pys ds) ≤ 11 * (ds.length + 1)
      omega
/-- a row: some leaves -/
def Leafy (d : D) : Prop := ∃ ds, d = .tup ds ∧ ds.all leaf = true ∧ ds.length ≤ 12
theorem leafy_ok {d : D} (n : Nat) (h : Leafy d) : flat d (n + 1) = true ∧ PyData.showable (py d) = true ∧ PyData.leavesShort 13 (py d) = true ∧ PyData.weight (py d) ≤ 132 := by
  obtain ⟨ds, rfl, h1, h2⟩ := h
  obtain ⟨b1, b2, b3, b4⟩ := leaves_ok n h1
  refine ⟨?_, b2, b3, ?_⟩
  · unfold flat
    rw [Nat.add_sub_cancel, b1, decide_eq_true (by omega)]
    rfl
  · show PyData.weightAll (pys ds) ≤ 132
    omega
theorem leafys_ok (n : Nat) : ∀ {ds : List D}, (∀ d ∈ ds, Leafy d) → flats ds (n + 1) = true ∧ PyData.showableAll (pys ds) = true ∧ PyData.leavesShortAll 13 (pys ds) = true ∧ PyData.weightAll (pys ds) ≤ 133 * ds.length
  | [], _ => ⟨by unfold flats; rfl, rfl, rfl, Nat.le_refl 0⟩
  | d :: ds, h => by
    obtain ⟨a1, a2, a3, a4⟩ := leafy_ok n (h d List.mem_cons_self)
    obtain ⟨b1, b2, b3, b4⟩ := leafys_ok n fun x hx => h x (List.mem_cons_of_mem _ hx)
    refine ⟨by unfold flats; rw [a1, b1]; rfl, ?_, ?_, ?_⟩
    · show (PyData.showable (py d) && PyData.showableAll (pys ds)) = true
      rw [a2, b2]; rfl
    · show (PyData.leavesShort 13 (py d) && PyData.leavesShortAll 13 (pys ds)) = true
      rw [a3, b3]; rfl
    · show PyData.weight (py d) + 1 + PyData.weightAll (pys ds) ≤ 133 * (ds.length + 1)
      omega
theorem shows_of {d : D} (h1 : flat d 60 = true) (h2 : PyData.showable (py d) = true) (h3 : PyData.leavesShort 13 (py d) = true) (h4 : PyData.weight (py d) ≤ 60000) : shows d = true := by
  have l := PyData.shown_le 13 (by decide) (py d) h3
  have l2 : (PyData.shown (py d)).length ≤ lim := by rw [lim_n]; omega
  unfold shows
  rw [h1, h2, decide_eq_true l2]
  rfl
theorem row_leafy {n many : Int} {r : Rw} (g : Good n many r) (h0 : 0 ≤ n) (h1 : many ≤ 12) : Leafy (enc r) := by
  have sl : ∀ w : Str, leaf (.str w) = true → leaf (.str w) = true := fun _ h => h
  have wd : ∀ o, leaf (word o) = true := fun o => by cases o <;> decide +kernel
  have ad : ∀ w, leaf (asks w) = true := fun w => by
    unfold asks
    split <;> decide +kernel
  have il : ∀ i : Int, i.natAbs < 1000 → leaf (.int i) = true := fun i h => decide_eq_true h
  have t1 : leaf (.str "take") = true := by decide +kernel
  have t2 : leaf (.str "part") = true := by decide +kernel
  have t3 : leaf (.str "move") = true := by decide +kernel
  have t4 : leaf (.str "skip") = true := by decide +kernel
  have t5 : leaf (.str "go") = true := by decide +kernel
  have t6 : leaf (.str "back") = true := by decide +kernel
  have t7 : leaf (.str "end") = true := by decide +kernel
  have t8 : leaf (.str "ask") = true := by decide +kernel
  cases r with
  | take box more size o to =>
    unfold Good at g
    refine ⟨_, rfl, ?_, by simp⟩
    simp only [List.all_cons, List.all_nil, t1, wd, il box (by omega), il more (by omega), il size (by omega), il to (by omega), Bool.and_self]
  | part box more shift width to =>
    unfold Good at g
    refine ⟨_, rfl, ?_, by simp⟩
    simp only [List.all_cons, List.all_nil, t2, il box (by omega), il more (by omega), il shift (by omega), il width (by omega), il to (by omega), Bool.and_self]
  | move k to =>
    unfold Good at g
    refine ⟨_, rfl, ?_, by simp⟩
    simp only [List.all_cons, List.all_nil, t3, il k (by omega), il to (by omega), Bool.and_self]
  | skip box times more to =>
    unfold Good at g
    refine ⟨_, rfl, ?_, by simp⟩
    simp only [List.all_cons, List.all_nil, t4, il box (by omega), il times (by omega), il more (by omega), il to (by omega), Bool.and_self]
  | go to =>
    unfold Good at g
    refine ⟨_, rfl, ?_, by simp⟩
    simp only [List.all_cons, List.all_nil, t5, il to (by omega), Bool.and_self]
  | back =>
    refine ⟨_, rfl, ?_, by simp⟩
    simp only [List.all_cons, List.all_nil, t6, Bool.and_self]
  | fin b =>
    refine ⟨_, rfl, ?_, by simp⟩
    simp only [List.all_cons, List.all_nil, t7, show leaf (.bl b) = true from rfl, Bool.and_self]
  | ask box w worth to =>
    unfold Good at g
    refine ⟨_, rfl, ?_, by simp⟩
    simp only [List.all_cons, List.all_nil, t8, ad, il box (by omega), il worth (by omega), il to (by omega), Bool.and_self]
theorem rows_leafy {Rs : List Rw} (W : Drawn Rs) : ∀ d ∈ Rs.map enc, Leafy d := fun d hd => by
  obtain ⟨r, hr, rfl⟩ := List.mem_map.mp hd
  obtain ⟨i, hi⟩ := List.getElem?_of_mem hr
  have := W.hi
  exact row_leafy (W.good i r hi) (by omega) (by omega)
def Bytes (S : List Int) : Prop := S.length ≤ 12 ∧ ∀ x ∈ S, 0 ≤ x ∧ x < 256
theorem bytes_leafy {S : List Int} (h : Bytes S) : Leafy (.tup (S.map .int)) := by
  refine ⟨_, rfl, List.all_eq_true.mpr fun d hd => ?_, by rw [List.length_map]; exact h.1⟩
  obtain ⟨x, hx, rfl⟩ := List.mem_map.mp hd
  have := h.2 x hx
  exact decide_eq_true (by omega)
theorem shows_pair {Rs : List Rw} {S : List Int} (W : Drawn Rs) (B : Bytes S) : shows (.lst [.tup (Rs.map enc), .tup (S.map .int)]) = true := by
  obtain ⟨a1, a2, a3, a4⟩ := leafys_ok 57 (rows_leafy W)
  obtain ⟨b1, b2, b3, b4⟩ := leafy_ok 58 (bytes_leafy B)
  have h := W.hi
  rw [List.length_map] at a4
  refine shows_of ?_ ?_ ?_ ?_
  · show (decide (0 < 60) && flats [.tup (Rs.map enc), .tup (S.map .int)] 59) = true
    unfold flats flats flats
    rw [b1]
    unfold flat
    rw [show 59 - 1 = 57 + 1 from rfl, a1]
    rfl
  · show (PyData.showableAll (pys (Rs.map enc)) && (PyData.showable (py (.tup (S.map .int))) && true)) = true
    rw [a2, b2]
    rfl
  · show (PyData.leavesShortAll 13 (pys (Rs.map enc)) && (PyData.leavesShort 13 (py (.tup (S.map .int))) && true)) = true
    rw [a3, b3]
    rfl
  · show PyData.weightAll (pys (Rs.map enc)) + 1 + (PyData.weight (py (.tup (S.map .int))) + 1 + 0) ≤ 60000
    omega
theorem shows_told {b : Bool} {x : Int} (h : x.natAbs < 1000) : shows (.tup [.bl b, .int x]) = true := by
  obtain ⟨a1, a2, a3, a4⟩ := leafy_ok 59 (d := .tup [.bl b, .int x]) ⟨_, rfl, by simp [leaf, h], by simp⟩
  exact shows_of a1 a2 a3 (by omega)
end K24

end

section
set_option maxHeartbeats 4000000
namespace K24
open PySem PySem.Spec PyProof.Rows L2 Mi
theorem cln_leaf {d : D} (b : Bool) (h : leaf d = true) : cln b d = true := by
  cases d with
  | int i => unfold cln; rfl
  | str x => unfold cln; rfl
  | bl c => unfold cln; rfl
  | _ => cases h
theorem clns_leaves (b : Bool) : ∀ {ds : List D}, ds.all leaf = true → clns b ds = true
  | [], _ => by unfold clns; rfl
  | d :: ds, h => by
    rw [List.all_cons, Bool.and_eq_true] at h
    unfold clns
    rw [cln_leaf b h.1, clns_leaves b h.2]
    rfl
theorem cln_leafy {d : D} (b : Bool) (h : Leafy d) : cln b d = true := by
  obtain ⟨ds, rfl, h1, _⟩ := h
  unfold cln
  exact clns_leaves b h1
theorem clns_leafys (b : Bool) : ∀ {ds : List D}, (∀ d ∈ ds, Leafy d) → clns b ds = true
  | [], _ => by unfold clns; rfl
  | d :: ds, h => by
    unfold clns
    rw [cln_leafy b (h d List.mem_cons_self), clns_leafys b fun x hx => h x (List.mem_cons_of_mem _ hx)]
    rfl
theorem cln_args {Rs : List Rw} {S : List Int} (W : Drawn Rs) (B : Bytes S) : clns true [.tup (Rs.map enc), .tup (S.map .int)] = true := by
  unfold clns clns clns
  rw [cln_leafy true (bytes_leafy B)]
  unfold cln
  rw [clns_leafys true (rows_leafy W)]
  rfl
def zeros : List Int := [0, 0, 0, 0, 0, 0, 0, 0]
theorem init_ok (S : List Int) : m_Machine_M___init__ [.ref 0, .tup (S.map .int)] [.ins "Machine" []] = .ok .non (PM S zeros 0 0) := by
  rw [m_Machine_M___init___eq]
  rfl
theorem runs {Rs : List Rw} {S : List Int} (W : Drawn Rs) : ∃ (b : Bool) (x : Int), (0 ≤ x ∧ x ≤ S.length) ∧ (∃ M1, mFn 6 b_run [.tup (Rs.map enc), .tup (S.map .int)] [] = .ok (.tup [.bl b, .int x]) M1) ∧ ∃ M2, mFn 11 b_law_told_by [.tup (Rs.map enc), .tup (S.map .int)] [] = .ok (.tup [.bl b, .int x]) M2 := by
  have lo := W.lo
  have hi := W.hi
  obtain ⟨σ', b, kvs', p4, p5, r6, r7, r8, r9, r10, e0, e1, e2, e3, e4⟩ := both (S := S) W 1000 ⟨0, 0, 0, zeros⟩ 0 [] none none none none none none none ⟨by decide, by simp only; omega, by decide, by decide, fun j hj => by omega, by decide, .inl ⟨by decide, by decide⟩⟩ ⟨by decide, by simp only; omega⟩ (by simp only; omega)
  have hn : σ'.n = (σ'.n.toNat : Nat) := by omega
  have ax : atI (Rs.map enc) σ'.n = some (enc (.fin b)) := atI_of hn (by rw [List.getElem?_map, e1]; rfl)
  have ef : enc (.fin b) = .tup [.str "end", .bl b] := rfl
  rw [ef] at ax
  refine ⟨b, σ'.seen, e0, ⟨PM S σ'.bs σ'.pl σ'.seen, ?_⟩, ⟨[.dct kvs'], ?_⟩⟩
  · have i := init_ok S
    unfold penv at e3
    have e3' : cWh 1000 ptest p_run_L0 [some (.tup (Rs.map enc)), some (.tup (S.map .int)), some (.ref 0), some (.int 0), none, none] (PM S zeros 0 0) = .nx [some (.tup (Rs.map enc)), some (.tup (S.map .int)), some (.ref 0), some (.int σ'.n), p4, p5] (PM S σ'.bs σ'.pl σ'.seen) := e3
    unfold ptest at e3'
    simp [b_run, mMake, i, e3', ixD_tup, ax, two1, tupD, f_seen, mFn, bCons, bNil, cRet, cAsg, cIf, cErr, cFor, mVar, mC, m1, m2, mN, aNil, aCons, mCall, callM, picks, pick, mAnd, mOr, mAndT, mOrT, mNotT, mB, mTru, mIf, mItems, itemsD, mI, truD, notD, eqD, neD, likeD, isStr, flat, flats, cmpD, isiD, tyName, gNam, gTupD, gsCons, gsNil, lim_n]
  · unfold lenv at e4
    have e4' : cWh 1000 ltest p_law_told_by_L0 [some (.tup (Rs.map enc)), some (.tup (S.map .int)), some (.int 0), some (.int 0), some (.int 0), some (.ref 0), none, none, none, none, none] [.dct []] = .nx [some (.tup (Rs.map enc)), some (.tup (S.map .int)), some (.int σ'.n), some (.int σ'.pl), some (.int σ'.seen), some (.ref 0), r6, r7, r8, r9, r10] [.dct kvs'] := e4
    unfold ltest at e4'
    simp [b_law_told_by, mDct0, e4', ixD_tup, ax, two1, tupD, mFn, bCons, bNil, cRet, cAsg, cIf, cErr, cFor, mVar, mC, m1, m2, mN, aNil, aCons, mCall, callM, picks, pick, mAnd, mOr, mAndT, mOrT, mNotT, mB, mTru, mIf, mItems, itemsD, mI, truD, notD, eqD, neD, likeD, isStr, flat, flats, cmpD, isiD, tyName, gNam, gTupD, gsCons, gsNil, lim_n]
theorem fr_ok {m : MF} {ds : List D} {d : D} {M1 : MH} (h1 : clns true ds = true) (h2 : m ds [] = .ok d M1) (h3 : cln false d = true) (M : MH) : frM m ds M = .ok d M := by
  unfold frM
  rw [if_pos h1, h2]
  simp only
  rw [if_pos h3]
/-- both tell the same -/
theorem same {Rs : List Rw} {S : List Int} (W : Drawn Rs) (B : Bytes S) : ∃ (b : Bool) (x : Int), x.natAbs < 1000 ∧ (∀ M, m_run [.tup (Rs.map enc), .tup (S.map .int)] M = .ok (.tup [.bl b, .int x]) M) ∧ ∀ M, m_law_told_by [.tup (Rs.map enc), .tup (S.map .int)] M = .ok (.tup [.bl b, .int x]) M := by
  obtain ⟨b, x, hx, ⟨M1, e1⟩, ⟨M2, e2⟩⟩ := runs (S := S) W
  have hb := B.1
  refine ⟨b, x, by omega, fun M => ?_, fun M => ?_⟩
  · rw [m_run_eq]
    exact fr_ok (cln_args W B) e1 rfl M
  · rw [m_law_told_by_eq]
    exact fr_ok (cln_args W B) e2 rfl M
end K24

end

section
set_option maxHeartbeats 4000000
namespace K24
open PySem PySem.Spec PyProof.Rows L2 Mi
def cp_Machine_M___init___C0 : ME := mC (.int 0)
def cb_Machine_M___init__ : MS := bCons (cFld ctab "some" (mVar 1) (mVar 0))
  (bCons (cFld ctab "boxes" (mLcC (mI rng1D (aCons (mC (.int 8)) (aNil))) (gNam 2) (mYes) (cp_Machine_M___init___C0) [2]) (mVar 0))
  (bCons (cFld ctab "place" (mC (.int 0)) (mVar 0))
  (bCons (cFld ctab "seen" (mC (.int 0)) (mVar 0))
  (bNil))))
def cm_Machine_M___init__ : MF := mFn 3 cb_Machine_M___init__
theorem e_m_Machine_M___init__ : m_Machine_M___init__ = cm_Machine_M___init__ := m_Machine_M___init___eq.trans (by unfold b_Machine_M___init__ p_Machine_M___init___C0; rfl)
def cb_is_so : MS := bCons (cIf (mB (m2 eqD (mVar 1) (mC (.str "same")))) (bCons (cRet (m2 eqD (mVar 0) (mVar 2)))
  (bNil)) (bNil))
  (bCons (cIf (mB (m2 eqD (mVar 1) (mC (.str "less")))) (bCons (cRet (m2 ltD (mVar 0) (mVar 2)))
  (bNil)) (bNil))
  (bCons (cRet (m2 gtD (mVar 0) (mVar 2)))
  (bNil)))
def cm_is_so : MF := mFn 3 cb_is_so
theorem e_m_is_so : m_is_so = cm_is_so := m_is_so_eq.trans (by unfold b_is_so ; rfl)
def cp_number_in_L0 : MS := bCons (cAsg (m2 addD (m2 mulD (mVar 3) (mC (.int 256))) (mVar 4)) (gNam 3))
  (bNil)
def cb_number_in : MS := bCons (cAsg (mVar 0) (gNam 2))
  (bCons (cIf (mB (m2 eqD (mVar 1) (mC (.str "small")))) (bCons (cAsg (m2 revD (mVar 0) (m1 negD (mC (.int 1)))) (gNam 2))
  (bNil)) (bNil))
  (bCons (cAsg (mC (.int 0)) (gNam 3))
  (bCons (cFor (mItems (mVar 2)) (gNam 4) (cp_number_in_L0))
  (bCons (cRet (mVar 3))
  (bNil)))))
def cm_number_in : MF := mFn 5 cb_number_in
theorem e_m_number_in : m_number_in = cm_number_in := m_number_in_eq.trans (by unfold b_number_in p_number_in_L0; rfl)
def cb_put_in_box : MS := bCons (cPut (mVar 2) (m1 (fldD ctab "boxes") (mVar 0)) (mVar 1))
  (bCons (cFld ctab "seen" (mN max2D (aCons (m1 (fldD ctab "seen") (mVar 0)) (aCons (mVar 3) (aNil)))) (mVar 0))
  (bNil))
def cm_put_in_box : MF := mFn 4 cb_put_in_box
theorem e_m_put_in_box : m_put_in_box = cm_put_in_box := m_put_in_box_eq.trans (by unfold b_put_in_box ; rfl)
def cb_go_on : MS := bCons (cIf (mOrT (mB (m2 ltD (mVar 1) (mC (.int 0)))) (mB (m2 gtD (m2 addD (m1 (fldD ctab "place") (mVar 0)) (mVar 1)) (mN lenD (aCons (m1 (fldD ctab "some") (mVar 0)) (aNil)))))) (bCons (cRet (mC (.bl true)))
  (bNil)) (bNil))
  (bCons (cFldAdd ctab "place" (mVar 0) (mVar 1))
  (bCons (cRet (mC (.bl false)))
  (bNil)))
def cm_go_on : MF := mFn 2 cb_go_on
theorem e_m_go_on : m_go_on = cm_go_on := m_go_on_eq.trans (by unfold b_go_on ; rfl)
def cb_do_go : MS := bCons (cRet (mC (.bl true)))
  (bNil)
def cm_do_go : MF := mFn 2 cb_do_go
theorem e_m_do_go : m_do_go = cm_do_go := m_do_go_eq.trans (by unfold b_do_go ; rfl)
def cb_do_back : MS := bCons (cFld ctab "place" (mC (.int 0)) (mVar 0))
  (bCons (cRet (mC (.bl false)))
  (bNil))
def cm_do_back : MF := mFn 2 cb_do_back
theorem e_m_do_back : m_do_back = cm_do_back := m_do_back_eq.trans (by unfold b_do_back ; rfl)
def cb_law_pool : MS := bCons (cAsg (mC (.int 0)) (gNam 2))
  (bCons (cIf (mB (m2 ltD (mVar 1) (mN lenD (aCons (mVar 0) (aNil))))) (bCons (cAsg (m2 ixD (mVar 0) (mVar 1)) (gNam 2))
  (bNil)) (bNil))
  (bCons (cAsg (mN absD (aCons (mVar 2) (aNil))) (gNam 3))
  (bCons (cAsg (m2 modD (m2 mulD (m2 addD (m2 addD (m2 modD (mVar 3) (mC (.int 2147483629))) (m2 mulD (mC (.int 7919)) (mVar 1))) (mC (.int 31))) (mC (.int 48271))) (mC (.int 2147483647))) (gNam 4))
  (bCons (cRet (mN celD (aCons (m2 mulD (mVar 3) (mN intD (aCons (m2 geD (mVar 3) (m2 powD (mC (.int 10)) (mC (.int 18)))) (aNil)))) (aCons (mVar 4) (aNil)))))
  (bNil)))))
def cm_law_pool : MF := mFn 5 cb_law_pool
theorem e_m_law_pool : m_law_pool = cm_law_pool := m_law_pool_eq.trans (by unfold b_law_pool ; rfl)
def cb_law_take : MS := bCons (cIf (mB (m2 gtD (m2 ixD (mVar 0) (mC (.int 0))) (mC (.int 0)))) (bCons (cAsg (m2 modD (m2 ixD (mVar 0) (mC (.int 0))) (mVar 1)) (gNam 2))
  (bCons (cPut (m2 fdivD (m2 ixD (mVar 0) (mC (.int 0))) (mVar 1)) (mVar 0) (mC (.int 0)))
  (bCons (cRet (mVar 2))
  (bNil)))) (bNil))
  (bCons (cPut (m2 modD (m2 addD (m2 mulD (m2 ixD (mVar 0) (mC (.int 1))) (mC (.int 48271))) (mC (.int 11))) (mC (.int 2147483647))) (mVar 0) (mC (.int 1)))
  (bCons (cRet (m2 modD (m2 fdivD (m2 modD (m2 mulD (m2 ixD (mVar 0) (mC (.int 1))) (m2 ixD (mVar 0) (mC (.int 1)))) (mC (.int 2147483629))) (mC (.int 64))) (mVar 1)))
  (bNil)))
def cm_law_take : MF := mFn 3 cb_law_take
theorem e_m_law_take : m_law_take = cm_law_take := m_law_take_eq.trans (by unfold b_law_take ; rfl)
def cp_law_worth_L0 : MS := bCons (cAsg (m2 addD (m2 mulD (mVar 2) (mC (.int 256))) (mVar 3)) (gNam 2))
  (bNil)
def cb_law_worth : MS := bCons (cAsg (mC (.int 0)) (gNam 2))
  (bCons (cFor (mItems (m2 ixD (mN lstD (aCons (m2 revD (mVar 0) (m1 negD (mC (.int 1)))) (aCons (mVar 0) (aNil)))) (mN intD (aCons (m2 eqD (mVar 1) (mC (.str "big"))) (aNil))))) (gNam 3) (cp_law_worth_L0))
  (bCons (cRet (mVar 2))
  (bNil)))
def cm_law_worth : MF := mFn 4 cb_law_worth
theorem e_m_law_worth : m_law_worth = cm_law_worth := m_law_worth_eq.trans (by unfold b_law_worth p_law_worth_L0; rfl)
def cb_do_take : MS := bCons (cAsg (mVar 1) (gTupD 6 (gsCons (gNam 2) (gsCons (gNam 3) (gsCons (gNam 4) (gsCons (gNam 5) (gsCons (gNam 6) (gsCons (gNam 2) (gsNil)))))))))
  (bCons (cAsg (m2 addD (m1 (fldD ctab "place") (mVar 0)) (mVar 4)) (gNam 7))
  (bCons (cAsg (m2 addD (mVar 7) (mVar 5)) (gNam 8))
  (bCons (cIf (mB (m2 gtD (mVar 8) (mN lenD (aCons (m1 (fldD ctab "some") (mVar 0)) (aNil))))) (bCons (cRet (mC (.bl true)))
  (bNil)) (bNil))
  (bCons (cExp (mCall cm_put_in_box 4 0 [.p 0, .p 1, .p 2, .p 3] [] (aCons (mVar 0) (aCons (mVar 3) (aCons (mCall cm_number_in 1 1 [.p 0, .k 0] [] (aCons (mSl (m1 (fldD ctab "some") (mVar 0)) (mPart (mVar 7)) (mPart (mVar 8))) (aNil)) (aCons (mVar 6) (aNil))) (aCons (mVar 8) (aNil))))) (aNil)))
  (bCons (cRet (mC (.bl false)))
  (bNil))))))
def cm_do_take : MF := mFn 9 cb_do_take
theorem e_m_do_take : m_do_take = cm_do_take := m_do_take_eq.trans (by unfold b_do_take ; rw [e_m_put_in_box, e_m_number_in]; rfl)
def cb_do_part : MS := bCons (cAsg (mVar 1) (gTupD 6 (gsCons (gNam 2) (gsCons (gNam 3) (gsCons (gNam 4) (gsCons (gNam 5) (gsCons (gNam 6) (gsCons (gNam 2) (gsNil)))))))))
  (bCons (cAsg (m2 addD (m1 (fldD ctab "place") (mVar 0)) (mVar 4)) (gNam 7))
  (bCons (cIf (mB (m2 geD (mVar 7) (mN lenD (aCons (m1 (fldD ctab "some") (mVar 0)) (aNil))))) (bCons (cRet (mC (.bl true)))
  (bNil)) (bNil))
  (bCons (cExp (mCall cm_put_in_box 4 0 [.p 0, .p 1, .p 2, .p 3] [] (aCons (mVar 0) (aCons (mVar 3) (aCons (m2 andD (m2 shrD (m2 ixD (m1 (fldD ctab "some") (mVar 0)) (mVar 7)) (mVar 5)) (m2 subD (m2 shlD (mC (.int 1)) (mVar 6)) (mC (.int 1)))) (aCons (m2 addD (mVar 7) (mC (.int 1))) (aNil))))) (aNil)))
  (bCons (cRet (mC (.bl false)))
  (bNil)))))
def cm_do_part : MF := mFn 8 cb_do_part
theorem e_m_do_part : m_do_part = cm_do_part := m_do_part_eq.trans (by unfold b_do_part ; rw [e_m_put_in_box]; rfl)
def cb_do_move : MS := bCons (cRet (mCall cm_go_on 2 0 [.p 0, .p 1] [] (aCons (mVar 0) (aCons (m2 ixD (mVar 1) (mC (.int 1))) (aNil))) (aNil)))
  (bNil)
def cm_do_move : MF := mFn 2 cb_do_move
theorem e_m_do_move : m_do_move = cm_do_move := m_do_move_eq.trans (by unfold b_do_move ; rw [e_m_go_on]; rfl)
def cb_do_skip : MS := bCons (cAsg (mVar 1) (gTupD 5 (gsCons (gNam 2) (gsCons (gNam 3) (gsCons (gNam 4) (gsCons (gNam 5) (gsCons (gNam 2) (gsNil))))))))
  (bCons (cRet (mCall cm_go_on 2 0 [.p 0, .p 1] [] (aCons (mVar 0) (aCons (m2 addD (m2 mulD (mVar 4) (m2 ixD (m1 (fldD ctab "boxes") (mVar 0)) (mVar 3))) (mVar 5)) (aNil))) (aNil)))
  (bNil))
def cm_do_skip : MF := mFn 6 cb_do_skip
theorem e_m_do_skip : m_do_skip = cm_do_skip := m_do_skip_eq.trans (by unfold b_do_skip ; rw [e_m_go_on]; rfl)
def cb_do_ask : MS := bCons (cAsg (mVar 1) (gTupD 5 (gsCons (gNam 2) (gsCons (gNam 3) (gsCons (gNam 4) (gsCons (gNam 5) (gsCons (gNam 2) (gsNil))))))))
  (bCons (cRet (mCall cm_is_so 3 0 [.p 0, .p 1, .p 2] [] (aCons (m2 ixD (m1 (fldD ctab "boxes") (mVar 0)) (mVar 3)) (aCons (mVar 4) (aCons (mVar 5) (aNil)))) (aNil)))
  (bNil))
def cm_do_ask : MF := mFn 6 cb_do_ask
theorem e_m_do_ask : m_do_ask = cm_do_ask := m_do_ask_eq.trans (by unfold b_do_ask ; rw [e_m_is_so]; rfl)
def cp_law_bytes_L0 : MS := bCons (cExp (mMt "list" appD (mVar 2) (aCons (m2 ixD (mN lstD (aCons (mC (.int 0)) (aCons (mC (.int 1)) (aCons (mC (.int 2)) (aCons (mC (.int 3)) (aCons (mC (.int 4)) (aCons (mC (.int 5)) (aCons (mC (.int 255)) (aCons (mCall cm_law_take 2 0 [.p 0, .p 1] [] (aCons (mVar 0) (aCons (mC (.int 256)) (aNil))) (aNil)) (aNil)))))))))) (mCall cm_law_take 2 0 [.p 0, .p 1] [] (aCons (mVar 0) (aCons (mC (.int 8)) (aNil))) (aNil))) (aNil))))
  (bNil)
def cb_law_bytes : MS := bCons (cAsg (mN celD (aNil)) (gNam 2))
  (bCons (cFor (mI rng1D (aCons (mCall cm_law_take 2 0 [.p 0, .p 1] [] (aCons (mVar 0) (aCons (m2 addD (mVar 1) (mC (.int 1))) (aNil))) (aNil)) (aNil))) (gNam 3) (cp_law_bytes_L0))
  (bCons (cRet (mN tupOfD (aCons (mVar 2) (aNil))))
  (bNil)))
def cm_law_bytes : MF := mFn 4 cb_law_bytes
theorem e_m_law_bytes : m_law_bytes = cm_law_bytes := m_law_bytes_eq.trans (by unfold b_law_bytes p_law_bytes_L0; rw [e_m_law_take]; rfl)
def cb_law_drawn_row : MS := bCons (cAsg (m2 addD (m2 addD (mVar 1) (mC (.int 1))) (mCall cm_law_take 2 0 [.p 0, .p 1] [] (aCons (mVar 0) (aCons (m2 subD (m2 subD (mVar 2) (mC (.int 1))) (mVar 1)) (aNil))) (aNil))) (gNam 4))
  (bCons (cAsg (mCall cm_law_take 2 0 [.p 0, .p 1] [] (aCons (mVar 0) (aCons (mVar 3) (aNil))) (aNil)) (gNam 5))
  (bCons (cAsg (mCall cm_law_take 2 0 [.p 0, .p 1] [] (aCons (mVar 0) (aCons (mC (.int 9)) (aNil))) (aNil)) (gNam 6))
  (bCons (cIf (mB (m2 eqD (mVar 6) (mC (.int 0)))) (bCons (cRet (mN tupD (aCons (mC (.str "take")) (aCons (mVar 5) (aCons (mCall cm_law_take 2 0 [.p 0, .p 1] [] (aCons (mVar 0) (aCons (mC (.int 4)) (aNil))) (aNil)) (aCons (m2 addD (mC (.int 1)) (mCall cm_law_take 2 0 [.p 0, .p 1] [] (aCons (mVar 0) (aCons (mC (.int 3)) (aNil))) (aNil))) (aCons (m2 ixD (mN lstD (aCons (mC (.str "big")) (aCons (mC (.str "small")) (aNil)))) (mCall cm_law_take 2 0 [.p 0, .p 1] [] (aCons (mVar 0) (aCons (mC (.int 2)) (aNil))) (aNil))) (aCons (mVar 4) (aNil)))))))))
  (bNil)) (bNil))
  (bCons (cIf (mB (m2 eqD (mVar 6) (mC (.int 1)))) (bCons (cRet (mN tupD (aCons (mC (.str "part")) (aCons (mVar 5) (aCons (mCall cm_law_take 2 0 [.p 0, .p 1] [] (aCons (mVar 0) (aCons (mC (.int 4)) (aNil))) (aNil)) (aCons (mCall cm_law_take 2 0 [.p 0, .p 1] [] (aCons (mVar 0) (aCons (mC (.int 8)) (aNil))) (aNil)) (aCons (m2 addD (mC (.int 1)) (mCall cm_law_take 2 0 [.p 0, .p 1] [] (aCons (mVar 0) (aCons (mC (.int 8)) (aNil))) (aNil))) (aCons (mVar 4) (aNil)))))))))
  (bNil)) (bNil))
  (bCons (cIf (mB (m2 eqD (mVar 6) (mC (.int 2)))) (bCons (cRet (mN tupD (aCons (mC (.str "move")) (aCons (mCall cm_law_take 2 0 [.p 0, .p 1] [] (aCons (mVar 0) (aCons (mC (.int 4)) (aNil))) (aNil)) (aCons (mVar 4) (aNil))))))
  (bNil)) (bNil))
  (bCons (cIf (mB (m2 eqD (mVar 6) (mC (.int 3)))) (bCons (cRet (mN tupD (aCons (mC (.str "skip")) (aCons (mVar 5) (aCons (m2 addD (mC (.int 1)) (mCall cm_law_take 2 0 [.p 0, .p 1] [] (aCons (mVar 0) (aCons (mC (.int 3)) (aNil))) (aNil))) (aCons (m2 subD (mCall cm_law_take 2 0 [.p 0, .p 1] [] (aCons (mVar 0) (aCons (mC (.int 5)) (aNil))) (aNil)) (mC (.int 2))) (aCons (mVar 4) (aNil))))))))
  (bNil)) (bNil))
  (bCons (cIf (mB (m2 eqD (mVar 6) (mC (.int 4)))) (bCons (cRet (mN tupD (aCons (mC (.str "go")) (aCons (mVar 4) (aNil)))))
  (bNil)) (bNil))
  (bCons (cIf (mB (m2 eqD (mVar 6) (mC (.int 5)))) (bCons (cRet (mN tupD (aCons (mC (.str "back")) (aNil))))
  (bNil)) (bNil))
  (bCons (cIf (mAndT (mB (m2 eqD (mVar 6) (mC (.int 6)))) (mB (m2 eqD (mCall cm_law_take 2 0 [.p 0, .p 1] [] (aCons (mVar 0) (aCons (mC (.int 3)) (aNil))) (aNil)) (mC (.int 0))))) (bCons (cRet (mN tupD (aCons (mC (.str "end")) (aCons (m2 eqD (mCall cm_law_take 2 0 [.p 0, .p 1] [] (aCons (mVar 0) (aCons (mC (.int 2)) (aNil))) (aNil)) (mC (.int 0))) (aNil)))))
  (bNil)) (bNil))
  (bCons (cRet (mN tupD (aCons (mC (.str "ask")) (aCons (mVar 5) (aCons (m2 ixD (mN lstD (aCons (mC (.str "same")) (aCons (mC (.str "less")) (aCons (mC (.str "more")) (aNil))))) (mCall cm_law_take 2 0 [.p 0, .p 1] [] (aCons (mVar 0) (aCons (mC (.int 3)) (aNil))) (aNil))) (aCons (m2 ixD (mN lstD (aCons (mC (.int 0)) (aCons (mC (.int 1)) (aCons (mC (.int 2)) (aCons (mC (.int 3)) (aCons (mC (.int 255)) (aCons (mC (.int 256)) (aNil)))))))) (mCall cm_law_take 2 0 [.p 0, .p 1] [] (aCons (mVar 0) (aCons (mC (.int 6)) (aNil))) (aNil))) (aCons (mVar 4) (aNil))))))))
  (bNil)))))))))))
def cm_law_drawn_row : MF := mFn 7 cb_law_drawn_row
theorem e_m_law_drawn_row : m_law_drawn_row = cm_law_drawn_row := m_law_drawn_row_eq.trans (by unfold b_law_drawn_row ; rw [e_m_law_take]; rfl)
def cp_law_told_by_L0 : MS := bCons (cAsg (m2 ixD (mVar 0) (mVar 2)) (gNam 6))
  (bCons (cAsg (m2 addD (mVar 2) (mC (.int 1))) (gNam 2))
  (bCons (cIf (mB (m2 eqD (m2 ixD (mVar 6) (mC (.int 0))) (mC (.str "go")))) (bCons (cAsg (m2 ixD (mVar 6) (mC (.int 1))) (gNam 2))
  (bNil)) (bNil))
  (bCons (cIf (mB (m2 eqD (m2 ixD (mVar 6) (mC (.int 0))) (mC (.str "back")))) (bCons (cAsg (mC (.int 0)) (gNam 3))
  (bNil)) (bNil))
  (bCons (cIf (mB (m2 (inD false) (m2 ixD (mVar 6) (mC (.int 0))) (mN tupD (aCons (mC (.str "take")) (aCons (mC (.str "part")) (aNil)))))) (bCons (cAsg (m2 addD (mVar 3) (m2 ixD (mVar 6) (mC (.int 2)))) (gNam 7))
  (bCons (cAsg (m2 addD (mVar 7) (m2 ixD (mN lstD (aCons (mC (.int 1)) (aCons (m2 ixD (mVar 6) (mC (.int 3))) (aNil)))) (mN intD (aCons (m2 eqD (m2 ixD (mVar 6) (mC (.int 0))) (mC (.str "take"))) (aNil))))) (gNam 8))
  (bCons (cIf (mB (m2 gtD (mVar 8) (mN lenD (aCons (mVar 1) (aNil))))) (bCons (cAsg (m2 ixD (mVar 6) (mC (.int 5))) (gNam 2))
  (bNil)) (bCons (cIf (mB (m2 eqD (m2 ixD (mVar 6) (mC (.int 0))) (mC (.str "take")))) (bCons (cPut (mCall cm_law_worth 2 0 [.p 0, .p 1] [] (aCons (mSl (mVar 1) (mPart (mVar 7)) (mPart (mVar 8))) (aCons (m2 ixD (mVar 6) (mC (.int 4))) (aNil))) (aNil)) (mVar 5) (m2 ixD (mVar 6) (mC (.int 1))))
  (bCons (cAsg (mN max2D (aCons (mVar 4) (aCons (mVar 8) (aNil)))) (gNam 4))
  (bNil))) (bCons (cPut (m2 modD (m2 shrD (m2 ixD (mVar 1) (mVar 7)) (m2 ixD (mVar 6) (mC (.int 3)))) (m2 shlD (mC (.int 1)) (m2 ixD (mVar 6) (mC (.int 4))))) (mVar 5) (m2 ixD (mVar 6) (mC (.int 1))))
  (bCons (cAsg (mN max2D (aCons (mVar 4) (aCons (mVar 8) (aNil)))) (gNam 4))
  (bNil))))
  (bNil)))
  (bNil)))) (bNil))
  (bCons (cIf (mB (m2 (inD false) (m2 ixD (mVar 6) (mC (.int 0))) (mN tupD (aCons (mC (.str "move")) (aCons (mC (.str "skip")) (aNil)))))) (bCons (cAsg (mIf (mB (m2 eqD (m2 ixD (mVar 6) (mC (.int 0))) (mC (.str "move")))) (m2 ixD (mVar 6) (mC (.int 1))) (m2 addD (m2 mulD (m2 ixD (mVar 5) (m2 ixD (mVar 6) (mC (.int 1)))) (m2 ixD (mVar 6) (mC (.int 2)))) (m2 ixD (mVar 6) (mC (.int 3))))) (gNam 9))
  (bCons (cIf (mOrT (mB (m2 ltD (mVar 9) (mC (.int 0)))) (mB (m2 gtD (m2 addD (mVar 3) (mVar 9)) (mN lenD (aCons (mVar 1) (aNil)))))) (bCons (cAsg (m2 ixD (mVar 6) (m1 negD (mC (.int 1)))) (gNam 2))
  (bNil)) (bCons (cAsg (m2 addD (mVar 3) (mVar 9)) (gNam 3))
  (bNil)))
  (bNil))) (bNil))
  (bCons (cIf (mB (m2 eqD (m2 ixD (mVar 6) (mC (.int 0))) (mC (.str "ask")))) (bCons (cAsg (m2 ixD (mVar 5) (m2 ixD (mVar 6) (mC (.int 1)))) (gNam 10))
  (bCons (cIf (mTru (m2 ixD (mN lstD (aCons (m2 eqD (mVar 10) (m2 ixD (mVar 6) (mC (.int 3)))) (aCons (m2 ltD (mVar 10) (m2 ixD (mVar 6) (mC (.int 3)))) (aCons (m2 gtD (mVar 10) (m2 ixD (mVar 6) (mC (.int 3)))) (aNil))))) (mMt "list" indexD (mN lstD (aCons (mC (.str "same")) (aCons (mC (.str "less")) (aCons (mC (.str "more")) (aNil))))) (aCons (m2 ixD (mVar 6) (mC (.int 2))) (aNil))))) (bCons (cAsg (m2 ixD (mVar 6) (mC (.int 4))) (gNam 2))
  (bNil)) (bNil))
  (bNil))) (bNil))
  (bNil)))))))
def cb_law_told_by : MS := bCons (cAsg (mC (.int 0)) (gNam 2))
  (bCons (cAsg (mC (.int 0)) (gNam 3))
  (bCons (cAsg (mC (.int 0)) (gNam 4))
  (bCons (cAsg (mDct0) (gNam 5))
  (bCons (cWh 1000 (mB (m2 neD (m2 ixD (m2 ixD (mVar 0) (mVar 2)) (mC (.int 0))) (mC (.str "end")))) (cp_law_told_by_L0))
  (bCons (cRet (mN tupD (aCons (m2 ixD (m2 ixD (mVar 0) (mVar 2)) (mC (.int 1))) (aCons (mVar 4) (aNil)))))
  (bNil))))))
def cm_law_told_by : MF := frM (mFn 11 cb_law_told_by)
theorem e_m_law_told_by : m_law_told_by = cm_law_told_by := m_law_told_by_eq.trans (by unfold b_law_told_by p_law_told_by_L0; rw [e_m_law_worth]; rfl)
def cheld_DEEDS : List (Str × MF) := [("do_take", cm_do_take), ("do_part", cm_do_part), ("do_move", cm_do_move), ("do_skip", cm_do_skip), ("do_ask", cm_do_ask), ("do_go", cm_do_go), ("do_back", cm_do_back)]
theorem e_held_DEEDS : held_DEEDS = cheld_DEEDS := by unfold held_DEEDS; rw [e_m_do_take, e_m_do_part, e_m_do_move, e_m_do_skip, e_m_do_ask, e_m_do_go, e_m_do_back]; rfl
def cp_run_L0 : MS := bCons (cAsg (m2 ixD (mVar 0) (mVar 3)) (gNam 4))
  (bCons (cAsg (m1 (tabD tbl_DEEDS) (m2 ixD (mVar 4) (mC (.int 0)))) (gNam 5))
  (bCons (cIf (mTru (mCallV cheld_DEEDS 5 2 (aCons (mVar 2) (aCons (mVar 4) (aNil))))) (bCons (cAsg (m2 ixD (mVar 4) (m1 negD (mC (.int 1)))) (gNam 3))
  (bNil)) (bCons (cAug 3 (mC (.int 1)))
  (bNil)))
  (bNil)))
def cb_run : MS := bCons (cAsg (mMake "Machine" cm_Machine_M___init__ 1 (aCons (mVar 1) (aNil))) (gNam 2))
  (bCons (cAsg (mC (.int 0)) (gNam 3))
  (bCons (cWh 1000 (mB (m2 neD (m2 ixD (m2 ixD (mVar 0) (mVar 3)) (mC (.int 0))) (mC (.str "end")))) (cp_run_L0))
  (bCons (cRet (mN tupD (aCons (m2 ixD (m2 ixD (mVar 0) (mVar 3)) (mC (.int 1))) (aCons (m1 (fldD ctab "seen") (mVar 2)) (aNil)))))
  (bNil))))
def cm_run : MF := frM (mFn 6 cb_run)
theorem e_m_run : m_run = cm_run := m_run_eq.trans (by unfold b_run p_run_L0; rw [e_held_DEEDS, e_m_Machine_M___init__]; rfl)
def cp_law_drawn_rows_L0 : MS := bCons (cAsg (m2 ixD (mN lstD (aCons (mC (.str "big")) (aCons (mC (.str "small")) (aNil)))) (mCall cm_law_take 2 0 [.p 0, .p 1] [] (aCons (mVar 0) (aCons (mC (.int 2)) (aNil))) (aNil))) (gNam 5))
  (bCons (cExp (mMt "list" appD (mVar 3) (aCons (mN tupD (aCons (mC (.str "take")) (aCons (mVar 4) (aCons (mCall cm_law_take 2 0 [.p 0, .p 1] [] (aCons (mVar 0) (aCons (mC (.int 3)) (aNil))) (aNil)) (aCons (m2 addD (mC (.int 1)) (mCall cm_law_take 2 0 [.p 0, .p 1] [] (aCons (mVar 0) (aCons (mC (.int 2)) (aNil))) (aNil))) (aCons (mVar 5) (aCons (m2 subD (mVar 2) (mC (.int 1))) (aNil)))))))) (aNil))))
  (bNil))
def cp_law_drawn_rows_L1 : MS := bCons (cExp (mMt "list" appD (mVar 3) (aCons (mCall cm_law_drawn_row 4 0 [.p 0, .p 1, .p 2, .p 3] [] (aCons (mVar 0) (aCons (mVar 6) (aCons (mVar 2) (aCons (mVar 1) (aNil))))) (aNil)) (aNil))))
  (bNil)
def cb_law_drawn_rows : MS := bCons (cAsg (m2 addD (mC (.int 6)) (mCall cm_law_take 2 0 [.p 0, .p 1] [] (aCons (mVar 0) (aCons (mC (.int 7)) (aNil))) (aNil))) (gNam 2))
  (bCons (cAsg (mN celD (aNil)) (gNam 3))
  (bCons (cFor (mI rng1D (aCons (mVar 1) (aNil))) (gNam 4) (cp_law_drawn_rows_L0))
  (bCons (cFor (mI rng2D (aCons (mVar 1) (aCons (m2 subD (mVar 2) (mC (.int 2))) (aNil)))) (gNam 6) (cp_law_drawn_rows_L1))
  (bCons (cExp (mMt "list" appD (mVar 3) (aCons (mN tupD (aCons (mC (.str "end")) (aCons (m2 eqD (mCall cm_law_take 2 0 [.p 0, .p 1] [] (aCons (mVar 0) (aCons (mC (.int 2)) (aNil))) (aNil)) (mC (.int 0))) (aNil)))) (aNil))))
  (bCons (cRet (mN tupOfD (aCons (m2 addD (mVar 3) (mN lstD (aCons (mN tupD (aCons (mC (.str "end")) (aCons (m2 eqD (mCall cm_law_take 2 0 [.p 0, .p 1] [] (aCons (mVar 0) (aCons (mC (.int 2)) (aNil))) (aNil)) (mC (.int 0))) (aNil)))) (aNil)))) (aNil))))
  (bNil))))))
def cm_law_drawn_rows : MF := mFn 7 cb_law_drawn_rows
theorem e_m_law_drawn_rows : m_law_drawn_rows = cm_law_drawn_rows := m_law_drawn_rows_eq.trans (by unfold b_law_drawn_rows p_law_drawn_rows_L1 p_law_drawn_rows_L0; rw [e_m_law_take, e_m_law_drawn_row]; rfl)
def cp_law_C0 : ME := mCall cm_law_bytes 2 0 [.p 0, .p 1] [] (aCons (mVar 2) (aCons (mC (.int 10)) (aNil))) (aNil)
def cp_law_L1 : MS := bCons (cAsg (mN reprD (aCons (mN lstD (aCons (mVar 4) (aCons (mVar 5) (aNil)))) (aNil))) (gNam 6))
  (bCons (cIf (mOrT (mB (m2 neD (mN reprD (aCons (mCall cm_run 2 0 [.p 0, .p 1] [] (aCons (mVar 4) (aCons (mVar 5) (aNil))) (aNil)) (aNil))) (mN reprD (aCons (mCall cm_law_told_by 2 0 [.p 0, .p 1] [] (aCons (mVar 4) (aCons (mVar 5) (aNil))) (aNil)) (aNil))))) (mB (m2 neD (mN reprD (aCons (mN lstD (aCons (mVar 4) (aCons (mVar 5) (aNil)))) (aNil))) (mVar 6)))) (bCons (cRet (mC (.bl false)))
  (bNil)) (bNil))
  (bNil))
def cp_law_L2 : MS := bCons (cAsg (mCall cm_law_drawn_rows 2 0 [.p 0, .p 1] [] (aCons (mVar 2) (aCons (mC (.int 3)) (aNil))) (aNil)) (gNam 4))
  (bCons (cFor (mItems (m2 addD (mLc (mI rng1D (aCons (mC (.int 12)) (aNil))) (gNam 8) (mYes) (cp_law_C0) [8]) (mN lstD (aCons (mN tupD (aNil)) (aCons (mN tupD (aCons (mC (.int 0)) (aNil))) (aCons (m2 mulD (mN tupD (aCons (mC (.int 255)) (aNil))) (mC (.int 12))) (aNil))))))) (gNam 5) (cp_law_L1))
  (bNil))
def cp_law_L3 : MS := bCons (cAsg (mCall cm_law_pool 2 0 [.p 0, .p 1] [] (aCons (mVar 0) (aCons (mVar 1) (aNil))) (aNil)) (gNam 2))
  (bCons (cFor (mI rng1D (aCons (mC (.int 4)) (aNil))) (gNam 3) (cp_law_L2))
  (bNil))
def cb_law : MS := bCons (cFor (mI rng1D (aCons (mN max2D (aCons (mC (.int 1)) (aCons (mN min2D (aCons (mC (.int 10)) (aCons (mN lenD (aCons (mVar 0) (aNil))) (aNil)))) (aNil)))) (aNil))) (gNam 1) (cp_law_L3))
  (bCons (cAsg (mN tupD (aCons (mN tupD (aCons (mC (.str "take")) (aCons (mC (.int 0)) (aCons (mC (.int 0)) (aCons (mC (.int 1)) (aCons (mC (.str "big")) (aCons (mC (.int 3)) (aNil)))))))) (aCons (mN tupD (aCons (mC (.str "take")) (aCons (mC (.int 0)) (aCons (mC (.int 5)) (aCons (mC (.int 1)) (aCons (mC (.str "big")) (aCons (mC (.int 2)) (aNil)))))))) (aCons (mN tupD (aCons (mC (.str "ask")) (aCons (mC (.int 0)) (aCons (mC (.str "same")) (aCons (mC (.int 9)) (aCons (mC (.int 4)) (aNil))))))) (aCons (mN tupD (aCons (mC (.str "end")) (aCons (mC (.bl false)) (aNil)))) (aNil)))))) (gNam 7))
  (bCons (cAsg (m2 addD (mVar 7) (mN tupD (aCons (mN tupD (aCons (mC (.str "end")) (aCons (mC (.bl true)) (aNil)))) (aNil)))) (gNam 7))
  (bCons (cRet (mAnd (m2 eqD (mCall cm_run 2 0 [.p 0, .p 1] [] (aCons (mVar 7) (aCons (mN tupD (aCons (mC (.int 9)) (aCons (mC (.int 1)) (aNil)))) (aNil))) (aNil)) (mN tupD (aCons (mC (.bl true)) (aCons (mC (.int 1)) (aNil))))) (m2 eqD (mCall cm_run 2 0 [.p 0, .p 1] [] (aCons (mVar 7) (aCons (mN tupD (aCons (mC (.int 9)) (aCons (mC (.int 1)) (aCons (mC (.int 1)) (aCons (mC (.int 1)) (aCons (mC (.int 1)) (aCons (mC (.int 8)) (aNil)))))))) (aNil))) (aNil)) (mN tupD (aCons (mC (.bl false)) (aCons (mC (.int 6)) (aNil)))))))
  (bNil))))
def cm_law : MF := mFn 9 cb_law
theorem e_m_law : m_law = cm_law := m_law_eq.trans (by unfold b_law p_law_L3 p_law_L2 p_law_L1 p_law_C0; rw [e_m_law_pool, e_m_law_drawn_rows, e_m_law_bytes, e_m_run, e_m_law_told_by]; rfl)
def isTI (b : Bool) (x : Int) : R D → Bool
  | .ok (.tup [.bl b', .int x']) _ => b' == b && x' == x
  | _ => false
theorem fr_ti {m : MF} {ds : List D} {b : Bool} {x : Int} (h1 : clns true ds = true) (h2 : isTI b x (m ds []) = true) (M : MH) : frM m ds M = .ok (.tup [.bl b, .int x]) M := by
  unfold frM
  rw [if_pos h1]
  unfold isTI at h2
  split at h2
  · rename_i b' x' M1 e
    rw [e]
    rw [Bool.and_eq_true, beq_iff_eq, beq_iff_eq] at h2
    obtain ⟨rfl, rfl⟩ := h2
    rfl
  · cases h2
def stays : D := .tup [.tup [.str "take", .int 0, .int 0, .int 1, .str "big", .int 3], .tup [.str "take", .int 0, .int 5, .int 1, .str "big", .int 2], .tup [.str "ask", .int 0, .str "same", .int 9, .int 4], .tup [.str "end", .bl false], .tup [.str "end", .bl true]]
theorem stay1 (M : MH) : m_run [stays, .tup [.int 9, .int 1]] M = .ok (.tup [.bl true, .int 1]) M := by
  rw [e_m_run]
  exact fr_ti (by decide +kernel) (by decide +kernel) M
theorem stay2 (M : MH) : m_run [stays, .tup [.int 9, .int 1, .int 1, .int 1, .int 1, .int 8]] M = .ok (.tup [.bl false, .int 6]) M := by
  rw [e_m_run]
  exact fr_ti (by decide +kernel) (by decide +kernel) M
end K24

end

section
set_option maxHeartbeats 4000000
namespace K24
open PySem PySem.Spec PyProof.Rows L2 Mi
/-! ### the law -/
theorem at8 {r v : Int} (h0 : 0 ≤ r) (h1 : r < 8) (v0 : 0 ≤ v) (v1 : v < 256) : ∃ y : Int, 0 ≤ y ∧ y < 256 ∧ atI ([.int 0, .int 1, .int 2, .int 3, .int 4, .int 5, .int 255, .int v] : List D) r = some (.int y) := by
  rcases (by omega : r = 0 ∨ r = 1 ∨ r = 2 ∨ r = 3 ∨ r = 4 ∨ r = 5 ∨ r = 6 ∨ r = 7) with rfl | rfl | rfl | rfl | rfl | rfl | rfl | rfl
  · exact ⟨0, by decide, by decide, rfl⟩
  · exact ⟨1, by decide, by decide, rfl⟩
  · exact ⟨2, by decide, by decide, rfl⟩
  · exact ⟨3, by decide, by decide, rfl⟩
  · exact ⟨4, by decide, by decide, rfl⟩
  · exact ⟨5, by decide, by decide, rfl⟩
  · exact ⟨255, by decide, by decide, rfl⟩
  · exact ⟨v, v0, v1, rfl⟩
theorem bytes_ok {l : Nat} {M : MH} (P : Pool l M) (hl : l < M.length) : ∃ (S : List Int) (M' : MH), Bytes S ∧ Pool l M' ∧ l < M'.length ∧ m_law_bytes [.ref l, .int 10] M = .ok (.tup (S.map .int)) M' := by
  have ne : M.length ≠ l := by omega
  have P0 : Pool l (M ++ [.lst []]) := by
    obtain ⟨n, s, hm, r⟩ := P
    exact ⟨n, s, by rw [List.getElem?_append_left hl]; exact hm, r⟩
  obtain ⟨r, M1, a1, b1, P1, S1, e1⟩ := take P0 (w := 11) (by decide) (by decide)
  obtain ⟨k, hk⟩ := Int.eq_ofNat_of_zero_le a1
  have hk10 : k ≤ 10 := by omega
  have c1 : M1[M.length]? = some (.lst (([] : List Int).map .int)) := by rw [S1.2 _ ne]; exact get_last
  have len1 : M1.length = M.length + 1 := by rw [S1.1, List.length_append]; rfl
  have rg : rng1D [.int r] M1 = .ok (rangeL 0 k) M1 := rng1_n hk (by omega)
  obtain ⟨e2, M2, h1, o3, S, rfl, P2, c2, l2, g2, ln2⟩ := forGo_inv (g := gNam 3) (b := p_law_bytes_L0) (fun i e M' => ∃ (o3 : Option D) (S : List Int), e = [some (.ref l), some (.int 10), some (.ref M.length), o3] ∧ Pool l M' ∧ M'[M.length]? = some (.lst (S.map .int)) ∧ S.length = i ∧ (∀ x ∈ S, 0 ≤ x ∧ x < 256) ∧ M'.length = M.length + 1)
    (rangeL 0 k) 0 [some (.ref l), some (.int 10), some (.ref M.length), none] M1 ⟨none, [], rfl, P1, c1, rfl, fun x h => by simp at h, len1⟩ fun i d e M' hd hi => by
      obtain ⟨o3, S, rfl, P2, c2, l2, g2, ln⟩ := hi
      obtain ⟨hi3, rfl⟩ := rangeL_get hd
      obtain ⟨q1, N1, y1, y2, Q1, T1, t1⟩ := take P2 (w := 256) (by decide) (by decide)
      obtain ⟨q2, N2, y3, y4, Q2, T2, t2⟩ := take Q1 (w := 8) (by decide) (by decide)
      obtain ⟨y, z0, z1, az⟩ := at8 y3 y4 y1 y2
      have T := T1.trans T2
      have c3 : N2[M.length]? = some (.lst (S.map .int)) := by rw [T.2 _ ne]; exact c2
      have sm : S.length < 1000000 := by omega
      have ms : S.map D.int ++ [.int y] = (S ++ [y]).map D.int := by simp
      refine ⟨_, _, N2.set M.length (.lst ((S ++ [y]).map .int)), rfl, .inl ?_, some (.int (0 + i)), S ++ [y], rfl, Q2.put ne, set_get c3, by rw [List.length_append, l2]; rfl, fun x h => ?_, by rw [List.length_set, T.1, ln]⟩
      · rw [← ms]
        simp [p_law_bytes_L0, ixD_lst, lstD, t1, t2, az, cExp, mMt, rcv, c2, c3, appD, sm, mFn, bCons, bNil, cRet, cAsg, cIf, cErr, cFor, mVar, mC, m1, m2, mN, aNil, aCons, mCall, callM, picks, pick, mAnd, mOr, mAndT, mOrT, mNotT, mB, mTru, mIf, mItems, itemsD, mI, truD, notD, eqD, neD, likeD, isStr, flat, flats, cmpD, isiD, tyName, gNam, gTupD, gsCons, gsNil, lim_n]
      · rcases List.mem_append.mp h with h | h
        · exact g2 x h
        · rw [List.mem_singleton.mp h]
          exact ⟨z0, z1⟩
  have lS : S.length = k := by
    rw [l2]
    unfold rangeL
    rw [List.length_map, List.length_range]
    omega
  refine ⟨S, M2, ⟨by omega, g2⟩, P2, by omega, ?_⟩
  have e11 : (10 : Int) + 1 = 11 := rfl
  simp [m_law_bytes_eq, b_law_bytes, celD, addD, e1, rg, h1, tupOfD, c2, mFn, bCons, bNil, cRet, cAsg, cIf, cErr, cFor, mVar, mC, m1, m2, mN, aNil, aCons, mCall, callM, picks, pick, mAnd, mOr, mAndT, mOrT, mNotT, mB, mTru, mIf, mItems, itemsD, mI, truD, notD, eqD, neD, likeD, isStr, flat, flats, cmpD, isiD, tyName, gNam, gTupD, gsCons, gsNil, lim_n]
theorem lc_bytes {l : Nat} {env : En} (he : (wipeE env [8])[2]? = some (some (.ref l))) (h8 : (wipeE env [8]).length = 9) : ∀ (items : List D) (M : MH), Pool l M → l < M.length → ∃ (Ss : List (List Int)) (M' : MH), (∀ S ∈ Ss, Bytes S) ∧ Ss.length = items.length ∧ Pool l M' ∧ l < M'.length ∧ lcGo (lcOne (gNam 8) mYes p_law_C0 (wipeE env [8])) items M = .ok (Ss.map fun (S : List Int) => D.tup (S.map .int)) M'
  | [], M, P, hl => ⟨[], M, fun S h => by simp at h, rfl, P, hl, rfl⟩
  | x :: items, M, P, hl => by
    obtain ⟨S, M1, b, P1, l1, e1⟩ := bytes_ok P hl
    obtain ⟨Ss, M2, bs, ln, P2, l2, e2⟩ := lc_bytes he h8 items M1 P1 l1
    refine ⟨S :: Ss, M2, fun T h => ?_, by rw [List.length_cons, ln]; rfl, P2, l2, ?_⟩
    · rcases List.mem_cons.mp h with rfl | h
      · exact b
      · exact bs T h
    · have g : gNam 8 x (wipeE env [8]) = some ((wipeE env [8]).set 8 (some x)) := by
        unfold gNam
        first | rfl | (rw [if_pos (by omega)])
      have he2 : ((wipeE env [8]).set 8 (some x))[2]? = some (some (.ref l)) := by rw [List.getElem?_set_ne (by decide)]; exact he
      have c : p_law_C0 ((wipeE env [8]).set 8 (some x)) M = .ok (.tup (S.map .int)) M1 := by
        simp [p_law_C0, he2, e1, mFn, bCons, bNil, cRet, cAsg, cIf, cErr, cFor, mVar, mC, m1, m2, mN, aNil, aCons, mCall, callM, picks, pick, mAnd, mOr, mAndT, mOrT, mNotT, mB, mTru, mIf, mItems, itemsD, mI, truD, notD, eqD, neD, likeD, isStr, flat, flats, cmpD, isiD, tyName, gNam, gTupD, gsCons, gsNil, lim_n]
      have one : lcOne (gNam 8) mYes p_law_C0 (wipeE env [8]) x M = .ok (some (.tup (S.map .int))) M1 := by
        unfold lcOne
        rw [g]
        simp only [mYes, noX, R.bind_ok, if_true]
        rw [c]
        rfl
      unfold lcGo
      rw [one]
      simp only [R.bind_ok]
      rw [e2]
      rfl
theorem deq_refl_str (x : Str) : deq (.str x) (.str x) = true := by rw [deq_str]; simp
theorem some_step {Rs : List Rw} {S : List Int} (W : Drawn Rs) (B : Bytes S) (o0 o1 o2 o3 o6 o7 o8 : Option D) (M : MH) : ∃ q6, p_law_L1 [o0, o1, o2, o3, some (.tup (Rs.map enc)), some (.tup (S.map .int)), o6, o7, o8] M = .nx [o0, o1, o2, o3, some (.tup (Rs.map enc)), some (.tup (S.map .int)), q6, o7, o8] M := by
  obtain ⟨b, x, hx, e1, e2⟩ := same W B
  have s1 := shows_pair W B
  have s2 := shows_told (b := b) hx
  have r1 : ∀ M, reprD [.lst [.tup (Rs.map enc), .tup (S.map .int)]] M = .ok (.str (PyData.shown (py (.lst [.tup (Rs.map enc), .tup (S.map .int)])))) M := fun M => by
    unfold reprD
    simp only
    rw [if_pos (by rw [s1]; rfl)]
  have r2 : ∀ M, reprD [.tup [.bl b, .int x]] M = .ok (.str (PyData.shown (py (.tup [.bl b, .int x])))) M := fun M => by
    unfold reprD
    simp only
    rw [if_pos (by rw [s2]; rfl)]
  generalize PyData.shown (py (.lst [.tup (Rs.map enc), .tup (S.map .int)])) = t1 at r1
  generalize PyData.shown (py (.tup [.bl b, .int x])) = t2 at r2
  refine ⟨some (.str t1), ?_⟩
  simp [p_law_L1, lstD, r1, e1, e2, r2, deq_refl_str, mFn, bCons, bNil, cRet, cAsg, cIf, cErr, cFor, mVar, mC, m1, m2, mN, aNil, aCons, mCall, callM, picks, pick, mAnd, mOr, mAndT, mOrT, mNotT, mB, mTru, mIf, mItems, itemsD, mI, truD, notD, eqD, neD, likeD, isStr, flat, flats, cmpD, isiD, tyName, gNam, gTupD, gsCons, gsNil, lim_n]
theorem turn_step {l : Nat} {M : MH} (P : Pool l M) (hl : l < M.length) (o0 o1 o3 o4 o5 o6 o7 o8 : Option D) : ∃ (q4 q5 q6 : Option D) (M' : MH), p_law_L2 [o0, o1, some (.ref l), o3, o4, o5, o6, o7, o8] M = .nx [o0, o1, some (.ref l), o3, q4, q5, q6, o7, o8] M' ∧ Pool l M' ∧ l < M'.length := by
  obtain ⟨Rs, M1, W, P1, K1, e1⟩ := rows_ok P hl
  have l1 : l < M1.length := by rw [K1.1]; omega
  have rg : rng1D [.int 12] M1 = .ok (rangeL 0 12) M1 := rng1_n (n := 12) rfl (by decide)
  obtain ⟨Ss, M2, bs, ln, P2, l2, e2⟩ := lc_bytes (env := [o0, o1, some (.ref l), o3, some (.tup (Rs.map enc)), o5, o6, o7, o8]) rfl rfl (rangeL 0 12) M1 P1 l1
  have ln12 : Ss.length = 12 := by rw [ln]; rfl
  have rl : (rangeL 0 12).length < 1000000 := by decide
  have sm : Ss.length + 3 ≤ 1000000 := by omega
  have ml : mulD (.tup [.int 255]) (.int 12) M2 = .ok (.tup (([255, 255, 255, 255, 255, 255, 255, 255, 255, 255, 255, 255] : List Int).map .int)) M2 := by rfl
  have all : ∀ S ∈ Ss ++ [[], [0], [255, 255, 255, 255, 255, 255, 255, 255, 255, 255, 255, 255]], Bytes S := fun S h => by
    rcases List.mem_append.mp h with h | h
    · exact bs S h
    · simp only [List.mem_cons, List.not_mem_nil, or_false] at h
      rcases h with rfl | rfl | rfl
      · exact ⟨by decide, fun x h => by simp at h⟩
      · exact ⟨by decide, fun x h => by rw [List.mem_singleton.mp h]; decide⟩
      · refine ⟨by decide, fun x h => ?_⟩
        simp only [List.mem_cons, List.not_mem_nil, or_false, or_self] at h
        subst h
        decide
  have em : Ss.map (fun (S : List Int) => D.tup (S.map .int)) ++ [.tup [], .tup [.int 0], .tup (([255, 255, 255, 255, 255, 255, 255, 255, 255, 255, 255, 255] : List Int).map .int)] = (Ss ++ [[], [0], [255, 255, 255, 255, 255, 255, 255, 255, 255, 255, 255, 255]]).map (fun (S : List Int) => D.tup (S.map .int)) := by simp
  generalize Ss ++ [[], [0], [255, 255, 255, 255, 255, 255, 255, 255, 255, 255, 255, 255]] = Ts at all em
  obtain ⟨e3, M3, h1, rfl, q5, q6, rfl⟩ := forGo_inv (g := gNam 5) (b := p_law_L1) (fun i e M' => M' = M2 ∧ ∃ q5 q6, e = [o0, o1, some (.ref l), o3, some (.tup (Rs.map enc)), q5, q6, o7, o8]) (Ts.map fun (S : List Int) => D.tup (S.map .int)) 0 [o0, o1, some (.ref l), o3, some (.tup (Rs.map enc)), o5, o6, o7, o8] M2 ⟨rfl, o5, o6, rfl⟩ fun i d e M' hd hi => by
    obtain ⟨rfl, q5, q6, rfl⟩ := hi
    rw [List.getElem?_map] at hd
    obtain ⟨S, h1, rfl⟩ := Option.map_eq_some_iff.mp hd
    obtain ⟨q, st⟩ := some_step W (all S (List.mem_of_getElem? h1)) o0 o1 (some (.ref l)) o3 q6 o7 o8 M'
    exact ⟨_, _, _, rfl, .inl st, rfl, _, _, rfl⟩
  refine ⟨some (.tup (Rs.map enc)), q5, q6, M3, ?_, P2, l2⟩
  rw [← em] at h1
  simp only [List.map_cons, List.map_nil] at h1
  simp [p_law_L2, e1, rg, mLc, rl, e2, ml, addD, lstD, tupD, sm, h1, mFn, bCons, bNil, cRet, cAsg, cIf, cErr, cFor, mVar, mC, m1, m2, mN, aNil, aCons, mCall, callM, picks, pick, mAnd, mOr, mAndT, mOrT, mNotT, mB, mTru, mIf, mItems, itemsD, mI, truD, notD, eqD, neD, likeD, isStr, flat, flats, cmpD, isiD, tyName, gNam, gTupD, gsCons, gsNil, lim_n]
theorem pool_core (c k K : Int) (x0 : D) (M : MH) (pe : ME) (pw : ∀ (env : En) (M : MH), pe env M = .ok (.int K) M) (hk : k.natAbs < 1000) : ∃ n s : Int, 0 ≤ n ∧ 0 ≤ s ∧ s < 2147483647 ∧
    (bCons (cAsg (mN absD (aCons (mVar 2) (aNil))) (gNam 3))
  (bCons (cAsg (m2 modD (m2 mulD (m2 addD (m2 addD (m2 modD (mVar 3) (mC (.int 2147483629))) (m2 mulD (mC (.int 7919)) (mVar 1))) (mC (.int 31))) (mC (.int 48271))) (mC (.int 2147483647))) (gNam 4))
  (bCons (cRet (mN celD (aCons (m2 mulD (mVar 3) (mN Mi.intD (aCons (m2 geD (mVar 3) pe) (aNil)))) (aCons (mVar 4) (aNil)))))
  (bNil)))) [some x0, some (.int k), some (.int c), none, none] M = .ret (.ref M.length) (M ++ [.lst [.int n, .int s]]) := by
  have m1' : mulD (.int 7919) (.int k) M = .ok (.int (7919 * k)) M := mulL (by decide)
  have m2' : ∀ a, mulD (.int a) (.int 48271) M = .ok (.int (a * 48271)) M := fun a => mulR (by decide)
  have z0 := Int.emod_nonneg (((c.natAbs : Int) % 2147483629 + 7919 * k + 31) * 48271) (show (2147483647 : Int) ≠ 0 by decide)
  have z1 := Int.emod_lt_of_pos (((c.natAbs : Int) % 2147483629 + 7919 * k + 31) * 48271) (show (0 : Int) < 2147483647 by decide)
  generalize hs : (((c.natAbs : Int) % 2147483629 + 7919 * k + 31) * 48271) % 2147483647 = s at z0 z1
  by_cases h : K ≤ (c.natAbs : Int)
  · have m3' : mulD (.int c.natAbs) (.int 1) M = .ok (.int (c.natAbs * 1)) M := mulR (by decide)
    refine ⟨c.natAbs * 1, s, by omega, z0, z1, ?_⟩
    simp [absD, modD, int2, m1', m2', addD, hs, pw, geD, h, Mi.intD, m3', celD, mFn, bCons, bNil, cRet, cAsg, cIf, cErr, cFor, mVar, mC, m1, m2, mN, aNil, aCons, mCall, callM, picks, pick, mAnd, mOr, mAndT, mOrT, mNotT, mB, mTru, mIf, mItems, itemsD, mI, truD, notD, eqD, neD, likeD, isStr, flat, flats, cmpD, isiD, tyName, gNam, gTupD, gsCons, gsNil, lim_n]
  · have m3' : mulD (.int c.natAbs) (.int 0) M = .ok (.int (c.natAbs * 0)) M := mulR (by decide)
    refine ⟨c.natAbs * 0, s, by omega, z0, z1, ?_⟩
    simp [absD, modD, int2, m1', m2', addD, hs, pw, geD, h, Mi.intD, m3', celD, mFn, bCons, bNil, cRet, cAsg, cIf, cErr, cFor, mVar, mC, m1, m2, mN, aNil, aCons, mCall, callM, picks, pick, mAnd, mOr, mAndT, mOrT, mNotT, mB, mTru, mIf, mItems, itemsD, mI, truD, notD, eqD, neD, likeD, isStr, flat, flats, cmpD, isiD, tyName, gNam, gTupD, gsCons, gsNil, lim_n]
theorem bCons_nx {a b : MS} {env e2 : En} {M M2 : MH} (h : a env M = .nx e2 M2) : bCons a b env M = b e2 M2 := by
  unfold bCons
  rw [h]
  rfl
theorem pool_ok (ns : List Int) {k : Nat} (hk : k < 10) (M : MH) : ∃ n s : Int, 0 ≤ n ∧ 0 ≤ s ∧ s < 2147483647 ∧ m_law_pool [.lst (ns.map .int), .int k] M = .ok (.ref M.length) (M ++ [.lst [.int n, .int s]]) := by
  have pw : ∀ (env : En) (M : MH), m2 powD (mC (.int 10)) (mC (.int 18)) env M = .ok (.int 1000000000000000000) M := fun env M => by rfl
  have s1 : cAsg (mC (.int 0)) (gNam 2) [some (.lst (ns.map .int)), some (.int k), none, none, none] M = .nx [some (.lst (ns.map .int)), some (.int k), some (.int 0), none, none] M := rfl
  have fin : ∀ c : Int, cIf (mB (m2 ltD (mVar 1) (mN lenD (aCons (mVar 0) (aNil))))) (bCons (cAsg (m2 ixD (mVar 0) (mVar 1)) (gNam 2)) (bNil)) (bNil) [some (.lst (ns.map .int)), some (.int k), some (.int 0), none, none] M = .nx [some (.lst (ns.map .int)), some (.int k), some (.int c), none, none] M →
      ∃ n s : Int, 0 ≤ n ∧ 0 ≤ s ∧ s < 2147483647 ∧ m_law_pool [.lst (ns.map .int), .int k] M = .ok (.ref M.length) (M ++ [.lst [.int n, .int s]]) := fun c s2 => by
    obtain ⟨n, s, h0, h1, h2, e⟩ := pool_core c k _ (.lst (ns.map .int)) M _ pw (by omega)
    refine ⟨n, s, h0, h1, h2, ?_⟩
    rw [m_law_pool_eq]
    have b : b_law_pool [some (.lst (ns.map .int)), some (.int k), none, none, none] M = .ret (.ref M.length) (M ++ [.lst [.int n, .int s]]) := by
      unfold b_law_pool
      rw [bCons_nx s1, bCons_nx s2]
      exact e
    show (match b_law_pool [some (.lst (ns.map .int)), some (.int k), none, none, none] M with | .nx _ M' => R.ok D.non M' | .ret d M' => .ok d M' | .exc c fs _ M' => .exc c fs M' | _ => .err) = _
    rw [b]
  by_cases h : k < ns.length
  · have hx : ns[k]? = some ns[k] := List.getElem?_eq_getElem h
    generalize ns[k] = c at hx
    have ax := atI_int (i := k) (k := k) rfl hx
    have hl : (k : Int) < ns.length := by omega
    exact fin c (by simp [ltD, lenD, h, ixD_lst, ax, mFn, bCons, bNil, cRet, cAsg, cIf, cErr, cFor, mVar, mC, m1, m2, mN, aNil, aCons, mCall, callM, picks, pick, mAnd, mOr, mAndT, mOrT, mNotT, mB, mTru, mIf, mItems, itemsD, mI, truD, notD, eqD, neD, likeD, isStr, flat, flats, cmpD, isiD, tyName, gNam, gTupD, gsCons, gsNil, lim_n])
  · exact fin 0 (by simp [ltD, lenD, h, mFn, bCons, bNil, cRet, cAsg, cIf, cErr, cFor, mVar, mC, m1, m2, mN, aNil, aCons, mCall, callM, picks, pick, mAnd, mOr, mAndT, mOrT, mNotT, mB, mTru, mIf, mItems, itemsD, mI, truD, notD, eqD, neD, likeD, isStr, flat, flats, cmpD, isiD, tyName, gNam, gTupD, gsCons, gsNil, lim_n])
theorem law_true (ns : List Int) (hn : ns.length ≤ 63) : ∃ M', m_law [.lst (ns.map D.int)] [] = .ok (.bl true) M' := by
  obtain ⟨j, hj, hj2⟩ : ∃ j : Nat, (j : Int) = max 1 (min 10 (ns.length : Int)) ∧ j ≤ 10 := ⟨(max 1 (min 10 (ns.length : Int))).toNat, by omega, by omega⟩
  have rg : rng1D [.int (max 1 (min 10 (ns.length : Int)))] [] = .ok (rangeL 0 j) [] := rng1_n hj.symm (by omega)
  obtain ⟨e2, M2, h1, o1, o2, o3, o4, o5, o6, o7, o8, rfl⟩ := forGo_inv (g := gNam 1) (b := p_law_L3) (fun i e M' => ∃ o1 o2 o3 o4 o5 o6 o7 o8, e = [some (.lst (ns.map D.int)), o1, o2, o3, o4, o5, o6, o7, o8]) (rangeL 0 j) 0 [some (.lst (ns.map D.int)), none, none, none, none, none, none, none, none] [] ⟨_, _, _, _, _, _, _, _, rfl⟩ fun i d e M' hd hi => by
    obtain ⟨o1, o2, o3, o4, o5, o6, o7, o8, rfl⟩ := hi
    obtain ⟨hi3, rfl⟩ := rangeL_get hd
    obtain ⟨n, s, n0, s0, s1, po⟩ := pool_ok ns (k := i) (by omega) M'
    have zi : (0 : Int) + i = i := by omega
    rw [zi]
    have P0 : Pool M'.length (M' ++ [.lst [.int n, .int s]]) := ⟨n, s, get_last, n0, s0, s1⟩
    have l0 : M'.length < (M' ++ [MO.lst [.int n, .int s]]).length := by rw [List.length_append]; simp
    have rg4 : rng1D [.int 4] (M' ++ [.lst [.int n, .int s]]) = .ok (rangeL 0 4) (M' ++ [.lst [.int n, .int s]]) := rng1_n (n := 4) rfl (by decide)
    obtain ⟨e3, M3, h1, p3, p4, p5, p6, p7, p8, rfl, P3, l3⟩ := forGo_inv (g := gNam 3) (b := p_law_L2) (fun t e M1 => ∃ p3 p4 p5 p6 p7 p8, e = [some (.lst (ns.map D.int)), some (.int i), some (.ref M'.length), p3, p4, p5, p6, p7, p8] ∧ Pool M'.length M1 ∧ M'.length < M1.length) (rangeL 0 4) 0 [some (.lst (ns.map D.int)), some (.int i), some (.ref M'.length), o3, o4, o5, o6, o7, o8] (M' ++ [.lst [.int n, .int s]]) ⟨_, _, _, _, _, _, rfl, P0, l0⟩ fun t d e M1 hd hi => by
      obtain ⟨p3, p4, p5, p6, p7, p8, rfl, P1, l1⟩ := hi
      obtain ⟨q4, q5, q6, M4, st, P4, l4⟩ := turn_step P1 l1 (some (.lst (ns.map D.int))) (some (.int i)) (some d) p4 p5 p6 p7 p8
      exact ⟨_, _, _, rfl, .inl st, _, _, _, _, _, _, rfl, P4, l4⟩
    refine ⟨_, _, M3, rfl, .inl ?_, some (.int i), some (.ref M'.length), p3, p4, p5, p6, p7, p8, rfl⟩
    simp [p_law_L3, po, rg4, h1, mFn, bCons, bNil, cRet, cAsg, cIf, cErr, cFor, mVar, mC, m1, m2, mN, aNil, aCons, mCall, callM, picks, pick, mAnd, mOr, mAndT, mOrT, mNotT, mB, mTru, mIf, mItems, itemsD, mI, truD, notD, eqD, neD, likeD, isStr, flat, flats, cmpD, isiD, tyName, gNam, gTupD, gsCons, gsNil, lim_n]
  have st1 := stay1
  have st2 := stay2
  unfold stays at st1 st2
  have d1 : deq (.tup [.bl true, .int 1]) (.tup [.bl true, .int 1]) = true := by decide +kernel
  have d2 : deq (.tup [.bl false, .int 6]) (.tup [.bl false, .int 6]) = true := by decide +kernel
  refine ⟨M2, ?_⟩
  simp [m_law_eq, b_law, lenD, min2D, max2D, rg, h1, tupD, addD, st1, st2, d1, d2, mFn, bCons, bNil, cRet, cAsg, cIf, cErr, cFor, mVar, mC, m1, m2, mN, aNil, aCons, mCall, callM, picks, pick, mAnd, mOr, mAndT, mOrT, mNotT, mB, mTru, mIf, mItems, itemsD, mI, truD, notD, eqD, neD, likeD, isStr, flat, flats, cmpD, isiD, tyName, gNam, gTupD, gsCons, gsNil, lim_n]
end K24

end

section
set_option maxHeartbeats 4000000
namespace K24
open PySem PySem.Spec PyProof.Rows L2 Mi
theorem all_mk {l : PySem.W.OpenLaw} {w : World} {K : PySem.W.Frag} {h : Heap} {mg : Str → Option Value} {fa : Addr} (X : K.In h) (G : h.Ns mainGlobals mg) (hfa : mg "law" = some (.ref fa))
  {p_Machine : Addr}
  {f0 : Addr} {od0 an0 : Option Addr} {sl0 : Array (Option Value)} {oc0 dc0 pm0 cd0 ct0 : Value}
  {kV0 : Value}
  {f1 : Addr} {od1 an1 : Option Addr} {sl1 : Array (Option Value)} {oc1 dc1 pm1 cd1 ct1 : Value}
  {kV1 : Value}
  {f2 : Addr} {od2 an2 : Option Addr} {sl2 : Array (Option Value)} {oc2 dc2 pm2 cd2 ct2 : Value}
  {Dk2 : Addr} {tk2 : Tok}
  {f3 : Addr} {od3 an3 : Option Addr} {sl3 : Array (Option Value)} {oc3 dc3 pm3 cd3 ct3 : Value}
  {kV3 : Value}
  {f4 : Addr} {od4 an4 : Option Addr} {sl4 : Array (Option Value)} {oc4 dc4 pm4 cd4 ct4 : Value}
  {kV4 : Value}
  {f5 : Addr} {od5 an5 : Option Addr} {sl5 : Array (Option Value)} {oc5 dc5 pm5 cd5 ct5 : Value}
  {kV5 : Value}
  {f6 : Addr} {od6 an6 : Option Addr} {sl6 : Array (Option Value)} {oc6 dc6 pm6 cd6 ct6 : Value}
  {kV6 : Value}
  {f7 : Addr} {od7 an7 : Option Addr} {sl7 : Array (Option Value)} {oc7 dc7 pm7 cd7 ct7 : Value}
  {kV7 : Value}
  {f8 : Addr} {od8 an8 : Option Addr} {sl8 : Array (Option Value)} {oc8 dc8 pm8 cd8 ct8 : Value}
  {kV8 : Value}
  {f9 : Addr} {od9 an9 : Option Addr} {sl9 : Array (Option Value)} {oc9 dc9 pm9 cd9 ct9 : Value}
  {kV9 : Value}
  {f10 : Addr} {od10 an10 : Option Addr} {sl10 : Array (Option Value)} {oc10 dc10 pm10 cd10 ct10 : Value}
  {kV10 : Value}
  {f11 : Addr} {od11 an11 : Option Addr} {sl11 : Array (Option Value)} {oc11 dc11 pm11 cd11 ct11 : Value}
  {kV11 : Value}
  {f12 : Addr} {od12 an12 : Option Addr} {sl12 : Array (Option Value)} {oc12 dc12 pm12 cd12 ct12 : Value}
  {kV12 : Value}
  {f13 : Addr} {od13 an13 : Option Addr} {sl13 : Array (Option Value)} {oc13 dc13 pm13 cd13 ct13 : Value}
  {kV13 : Value}
  {f14 : Addr} {od14 an14 : Option Addr} {sl14 : Array (Option Value)} {oc14 dc14 pm14 cd14 ct14 : Value}
  {kV14 : Value}
  {f15 : Addr} {od15 an15 : Option Addr} {sl15 : Array (Option Value)} {oc15 dc15 pm15 cd15 ct15 : Value}
  {kV15 : Value}
  {f16 : Addr} {od16 an16 : Option Addr} {sl16 : Array (Option Value)} {oc16 dc16 pm16 cd16 ct16 : Value}
  {kV16 : Value}
  {f17 : Addr} {od17 an17 : Option Addr} {sl17 : Array (Option Value)} {oc17 dc17 pm17 cd17 ct17 : Value}
  {kV17 : Value}
  {f18 : Addr} {od18 an18 : Option Addr} {sl18 : Array (Option Value)} {oc18 dc18 pm18 cd18 ct18 : Value}
  {kV18 : Value}
  {f19 : Addr} {od19 an19 : Option Addr} {sl19 : Array (Option Value)} {oc19 dc19 pm19 cd19 ct19 : Value}
  {kV19 : Value}
  {f20 : Addr} {od20 an20 : Option Addr} {sl20 : Array (Option Value)} {oc20 dc20 pm20 cd20 ct20 : Value}
  {kV20 : Value}
  {p_DEEDS : Addr} {es_DEEDS : Array DictEntry} {n_DEEDS : Nat}
  {k_BOXES : Tok}
  (n_Machine : PySem.W.nsIn K mainGlobals "Machine" = some (some (.ref p_Machine))) (pg_Machine : PySem.W.plainGet K p_Machine Str.empty = true) (hd_Machine : PySem.W.hasDictIn K p_Machine = true) (po_Machine : PySem.W.plainOver K p_Machine = true) (sa_Machine : PySem.W.findIn K (.ref p_Machine) "__setattr__" = some (some (.builtin "object.__setattr__"))) (mk_Machine : PySem.W.makesIn K p_Machine = true) (kc_Machine : PySem.W.keepIn K (.ref p_Machine) = true)
  (na_Machine_some : PySem.W.findIn K (.ref p_Machine) "some" = some none)
  (na_Machine_boxes : PySem.W.findIn K (.ref p_Machine) "boxes" = some none)
  (na_Machine_place : PySem.W.findIn K (.ref p_Machine) "place" = some none)
  (na_Machine_seen : PySem.W.findIn K (.ref p_Machine) "seen" = some none)
  (a0 : PySem.W.findIn K (.ref p_Machine) "__init__" = some (some (.ref f0))) (fn0 : PySem.W.isFn K (.ref f0) = true) (l0 : K.lookup f0 = some ⟨oc0, od0, .func (PySem.W.fnOf "__init__" "Machine.__init__" (defArgs st_Machine_M___init__) (defBody st_Machine_M___init__) (defScope st_Machine_M___init__) .none kV0 dc0 pm0 an0 cd0 ct0), sl0⟩) (c0 : PySem.W.codeIn K cd0 "Machine.__init__" = true) (k0 : PySem.W.keepIn K (.ref f0) = true)
  (a1 : PySem.W.nsIn K mainGlobals "is_so" = some (some (.ref f1))) (l1 : K.lookup f1 = some ⟨oc1, od1, .func (PySem.W.fnOf "is_so" "is_so" (defArgs st_is_so) (defBody st_is_so) (defScope st_is_so) .none kV1 dc1 pm1 an1 cd1 ct1), sl1⟩) (c1 : PySem.W.codeIn K cd1 "is_so" = true) (k1 : PySem.W.keepIn K (.ref f1) = true)
  (a2 : PySem.W.nsIn K mainGlobals "number_in" = some (some (.ref f2))) (l2 : K.lookup f2 = some ⟨oc2, od2, .func (PySem.W.fnOf "number_in" "number_in" (defArgs st_number_in) (defBody st_number_in) (defScope st_number_in) .none (.ref Dk2) dc2 pm2 an2 cd2 ct2), sl2⟩) (c2 : PySem.W.codeIn K cd2 "number_in" = true) (k2 : PySem.W.keepIn K (.ref f2) = true)
  (d2 : PySem.W.nsIn K Dk2 "order" = some (some (.str "big" tk2)))
  (a3 : PySem.W.nsIn K mainGlobals "put_in_box" = some (some (.ref f3))) (l3 : K.lookup f3 = some ⟨oc3, od3, .func (PySem.W.fnOf "put_in_box" "put_in_box" (defArgs st_put_in_box) (defBody st_put_in_box) (defScope st_put_in_box) .none kV3 dc3 pm3 an3 cd3 ct3), sl3⟩) (c3 : PySem.W.codeIn K cd3 "put_in_box" = true) (k3 : PySem.W.keepIn K (.ref f3) = true)
  (a4 : PySem.W.nsIn K mainGlobals "go_on" = some (some (.ref f4))) (l4 : K.lookup f4 = some ⟨oc4, od4, .func (PySem.W.fnOf "go_on" "go_on" (defArgs st_go_on) (defBody st_go_on) (defScope st_go_on) .none kV4 dc4 pm4 an4 cd4 ct4), sl4⟩) (c4 : PySem.W.codeIn K cd4 "go_on" = true) (k4 : PySem.W.keepIn K (.ref f4) = true)
  (a5 : PySem.W.nsIn K mainGlobals "do_go" = some (some (.ref f5))) (l5 : K.lookup f5 = some ⟨oc5, od5, .func (PySem.W.fnOf "do_go" "do_go" (defArgs st_do_go) (defBody st_do_go) (defScope st_do_go) .none kV5 dc5 pm5 an5 cd5 ct5), sl5⟩) (c5 : PySem.W.codeIn K cd5 "do_go" = true) (k5 : PySem.W.keepIn K (.ref f5) = true)
  (a6 : PySem.W.nsIn K mainGlobals "do_back" = some (some (.ref f6))) (l6 : K.lookup f6 = some ⟨oc6, od6, .func (PySem.W.fnOf "do_back" "do_back" (defArgs st_do_back) (defBody st_do_back) (defScope st_do_back) .none kV6 dc6 pm6 an6 cd6 ct6), sl6⟩) (c6 : PySem.W.codeIn K cd6 "do_back" = true) (k6 : PySem.W.keepIn K (.ref f6) = true)
  (a7 : PySem.W.nsIn K mainGlobals "_law_pool" = some (some (.ref f7))) (l7 : K.lookup f7 = some ⟨oc7, od7, .func (PySem.W.fnOf "_law_pool" "_law_pool" (defArgs st__law_pool) (defBody st__law_pool) (defScope st__law_pool) .none kV7 dc7 pm7 an7 cd7 ct7), sl7⟩) (c7 : PySem.W.codeIn K cd7 "_law_pool" = true) (k7 : PySem.W.keepIn K (.ref f7) = true)
  (a8 : PySem.W.nsIn K mainGlobals "_law_take" = some (some (.ref f8))) (l8 : K.lookup f8 = some ⟨oc8, od8, .func (PySem.W.fnOf "_law_take" "_law_take" (defArgs st__law_take) (defBody st__law_take) (defScope st__law_take) .none kV8 dc8 pm8 an8 cd8 ct8), sl8⟩) (c8 : PySem.W.codeIn K cd8 "_law_take" = true) (k8 : PySem.W.keepIn K (.ref f8) = true)
  (a9 : PySem.W.nsIn K mainGlobals "_law_worth" = some (some (.ref f9))) (l9 : K.lookup f9 = some ⟨oc9, od9, .func (PySem.W.fnOf "_law_worth" "_law_worth" (defArgs st__law_worth) (defBody st__law_worth) (defScope st__law_worth) .none kV9 dc9 pm9 an9 cd9 ct9), sl9⟩) (c9 : PySem.W.codeIn K cd9 "_law_worth" = true) (k9 : PySem.W.keepIn K (.ref f9) = true)
  (a10 : PySem.W.nsIn K mainGlobals "do_take" = some (some (.ref f10))) (l10 : K.lookup f10 = some ⟨oc10, od10, .func (PySem.W.fnOf "do_take" "do_take" (defArgs st_do_take) (defBody st_do_take) (defScope st_do_take) .none kV10 dc10 pm10 an10 cd10 ct10), sl10⟩) (c10 : PySem.W.codeIn K cd10 "do_take" = true) (k10 : PySem.W.keepIn K (.ref f10) = true)
  (a11 : PySem.W.nsIn K mainGlobals "do_part" = some (some (.ref f11))) (l11 : K.lookup f11 = some ⟨oc11, od11, .func (PySem.W.fnOf "do_part" "do_part" (defArgs st_do_part) (defBody st_do_part) (defScope st_do_part) .none kV11 dc11 pm11 an11 cd11 ct11), sl11⟩) (c11 : PySem.W.codeIn K cd11 "do_part" = true) (k11 : PySem.W.keepIn K (.ref f11) = true)
  (a12 : PySem.W.nsIn K mainGlobals "do_move" = some (some (.ref f12))) (l12 : K.lookup f12 = some ⟨oc12, od12, .func (PySem.W.fnOf "do_move" "do_move" (defArgs st_do_move) (defBody st_do_move) (defScope st_do_move) .none kV12 dc12 pm12 an12 cd12 ct12), sl12⟩) (c12 : PySem.W.codeIn K cd12 "do_move" = true) (k12 : PySem.W.keepIn K (.ref f12) = true)
  (a13 : PySem.W.nsIn K mainGlobals "do_skip" = some (some (.ref f13))) (l13 : K.lookup f13 = some ⟨oc13, od13, .func (PySem.W.fnOf "do_skip" "do_skip" (defArgs st_do_skip) (defBody st_do_skip) (defScope st_do_skip) .none kV13 dc13 pm13 an13 cd13 ct13), sl13⟩) (c13 : PySem.W.codeIn K cd13 "do_skip" = true) (k13 : PySem.W.keepIn K (.ref f13) = true)
  (a14 : PySem.W.nsIn K mainGlobals "do_ask" = some (some (.ref f14))) (l14 : K.lookup f14 = some ⟨oc14, od14, .func (PySem.W.fnOf "do_ask" "do_ask" (defArgs st_do_ask) (defBody st_do_ask) (defScope st_do_ask) .none kV14 dc14 pm14 an14 cd14 ct14), sl14⟩) (c14 : PySem.W.codeIn K cd14 "do_ask" = true) (k14 : PySem.W.keepIn K (.ref f14) = true)
  (a15 : PySem.W.nsIn K mainGlobals "_law_bytes" = some (some (.ref f15))) (l15 : K.lookup f15 = some ⟨oc15, od15, .func (PySem.W.fnOf "_law_bytes" "_law_bytes" (defArgs st__law_bytes) (defBody st__law_bytes) (defScope st__law_bytes) .none kV15 dc15 pm15 an15 cd15 ct15), sl15⟩) (c15 : PySem.W.codeIn K cd15 "_law_bytes" = true) (k15 : PySem.W.keepIn K (.ref f15) = true)
  (a16 : PySem.W.nsIn K mainGlobals "_law_drawn_row" = some (some (.ref f16))) (l16 : K.lookup f16 = some ⟨oc16, od16, .func (PySem.W.fnOf "_law_drawn_row" "_law_drawn_row" (defArgs st__law_drawn_row) (defBody st__law_drawn_row) (defScope st__law_drawn_row) .none kV16 dc16 pm16 an16 cd16 ct16), sl16⟩) (c16 : PySem.W.codeIn K cd16 "_law_drawn_row" = true) (k16 : PySem.W.keepIn K (.ref f16) = true)
  (a17 : PySem.W.nsIn K mainGlobals "_law_told_by" = some (some (.ref f17))) (l17 : K.lookup f17 = some ⟨oc17, od17, .func (PySem.W.fnOf "_law_told_by" "_law_told_by" (defArgs st__law_told_by) (defBody st__law_told_by) (defScope st__law_told_by) .none kV17 dc17 pm17 an17 cd17 ct17), sl17⟩) (c17 : PySem.W.codeIn K cd17 "_law_told_by" = true) (k17 : PySem.W.keepIn K (.ref f17) = true)
  (a18 : PySem.W.nsIn K mainGlobals "run" = some (some (.ref f18))) (l18 : K.lookup f18 = some ⟨oc18, od18, .func (PySem.W.fnOf "run" "run" (defArgs st_run) (defBody st_run) (defScope st_run) .none kV18 dc18 pm18 an18 cd18 ct18), sl18⟩) (c18 : PySem.W.codeIn K cd18 "run" = true) (k18 : PySem.W.keepIn K (.ref f18) = true)
  (a19 : PySem.W.nsIn K mainGlobals "_law_drawn_rows" = some (some (.ref f19))) (l19 : K.lookup f19 = some ⟨oc19, od19, .func (PySem.W.fnOf "_law_drawn_rows" "_law_drawn_rows" (defArgs st__law_drawn_rows) (defBody st__law_drawn_rows) (defScope st__law_drawn_rows) .none kV19 dc19 pm19 an19 cd19 ct19), sl19⟩) (c19 : PySem.W.codeIn K cd19 "_law_drawn_rows" = true) (k19 : PySem.W.keepIn K (.ref f19) = true)
  (a20 : PySem.W.nsIn K mainGlobals "law" = some (some (.ref f20))) (l20 : K.lookup f20 = some ⟨oc20, od20, .func (PySem.W.fnOf "law" "law" (defArgs st_law) (defBody st_law) (defScope st_law) .none kV20 dc20 pm20 an20 cd20 ct20), sl20⟩) (c20 : PySem.W.codeIn K cd20 "law" = true) (k20 : PySem.W.keepIn K (.ref f20) = true)
  (g_DEEDS : PySem.W.nsIn K mainGlobals "DEEDS" = some (some (.ref p_DEEDS))) (lt_DEEDS : K.lookup p_DEEDS = some ⟨.type "dict", none, .dict es_DEEDS n_DEEDS, #[]⟩) (kl_DEEDS : PySem.W.KeysLit w.params es_DEEDS.toList)
  (v_DEEDS0 : PySem.W.nsIn K p_DEEDS "take" = some (some (.ref f10)))
  (v_DEEDS1 : PySem.W.nsIn K p_DEEDS "part" = some (some (.ref f11)))
  (v_DEEDS2 : PySem.W.nsIn K p_DEEDS "move" = some (some (.ref f12)))
  (v_DEEDS3 : PySem.W.nsIn K p_DEEDS "skip" = some (some (.ref f13)))
  (v_DEEDS4 : PySem.W.nsIn K p_DEEDS "ask" = some (some (.ref f14)))
  (v_DEEDS5 : PySem.W.nsIn K p_DEEDS "go" = some (some (.ref f5)))
  (v_DEEDS6 : PySem.W.nsIn K p_DEEDS "back" = some (some (.ref f6)))
  (z_range : PySem.W.nsIn K mainGlobals "range" = some none)
  (z_max : PySem.W.nsIn K mainGlobals "max" = some none)
  (z_len : PySem.W.nsIn K mainGlobals "len" = some none)
  (z_abs : PySem.W.nsIn K mainGlobals "abs" = some none)
  (z_int : PySem.W.nsIn K mainGlobals "int" = some none)
  (z_tuple : PySem.W.nsIn K mainGlobals "tuple" = some none)
  (z_min : PySem.W.nsIn K mainGlobals "min" = some none)
  (z_repr : PySem.W.nsIn K mainGlobals "repr" = some none)
  (g_BOXES : PySem.W.nsIn K mainGlobals "BOXES" = some (some (.int 8 k_BOXES))) :
  ∃ fd : FuncData, (∀ (s : Shared) (u : Value), BindsTo s fd ⟨[u], []⟩ [("_law_script", u)]) ∧ ∀ base : Heap, K.In base → base.Ns mainGlobals mg → FnG l.prog w K mg base 4 fa fd ["_law_script"] (spM K 1 m_law) := by
  refine ⟨_, fun s u => .of_eq rfl, fun base _ _ => law_fd (x := "law") (st := st_law) (ps := ["_law_script"]) X G hfa a20 l20 ?_⟩
  have OW_Machine : OwnC K mg "Machine" p_Machine := ⟨n_Machine, PySem.W.mg_of X G n_Machine, ⟨pg_Machine, hd_Machine, po_Machine, sa_Machine⟩⟩
  have MK_Machine : ∀ C, OwnC K mg "Machine" C → PySem.W.makesIn K C = true ∧ PySem.W.keepIn K (.ref C) = true := fun C o => by
    have z := n_Machine.symm.trans o.nm
    cases z
    exact ⟨mk_Machine, kc_Machine⟩
  have okC : COk K ctab := fun p hp => by
    simp only [ctab, List.mem_cons, List.not_mem_nil, or_false] at hp
    rcases hp with rfl
    · refine ⟨p_Machine, n_Machine, OW_Machine.cl, fun f hf => ?_⟩
      simp only [List.mem_cons, List.not_mem_nil, or_false] at hf
      rcases hf with rfl | rfl | rfl | rfl
      · exact na_Machine_some
      · exact na_Machine_boxes
      · exact na_Machine_place
      · exact na_Machine_seen
  have A0 := atm_mk (st := st_Machine_M___init__) OW_Machine a0 fn0 l0 c0 k0
  have A1 := at_mk (st := st_is_so) X G a1 l1 c1 k1
  have A2 := at_mk1 (st := st_number_in) X G a2 l2 c2 k2 d2
  have A3 := at_mk (st := st_put_in_box) X G a3 l3 c3 k3
  have A4 := at_mk (st := st_go_on) X G a4 l4 c4 k4
  have A5 := at_mk (st := st_do_go) X G a5 l5 c5 k5
  have A6 := at_mk (st := st_do_back) X G a6 l6 c6 k6
  have A7 := at_mk (st := st__law_pool) X G a7 l7 c7 k7
  have A8 := at_mk (st := st__law_take) X G a8 l8 c8 k8
  have A9 := at_mk (st := st__law_worth) X G a9 l9 c9 k9
  have A10 := at_mk (st := st_do_take) X G a10 l10 c10 k10
  have A11 := at_mk (st := st_do_part) X G a11 l11 c11 k11
  have A12 := at_mk (st := st_do_move) X G a12 l12 c12 k12
  have A13 := at_mk (st := st_do_skip) X G a13 l13 c13 k13
  have A14 := at_mk (st := st_do_ask) X G a14 l14 c14 k14
  have A15 := at_mk (st := st__law_bytes) X G a15 l15 c15 k15
  have A16 := at_mk (st := st__law_drawn_row) X G a16 l16 c16 k16
  have A17 := at_mk (st := st__law_told_by) X G a17 l17 c17 k17
  have A18 := at_mk (st := st_run) X G a18 l18 c18 k18
  have A19 := at_mk (st := st__law_drawn_rows) X G a19 l19 c19 k19
  have A20 := at_mk (st := st_law) X G a20 l20 c20 k20
  have Z_range := PySem.W.mg_none_of X G z_range
  have Z_max := PySem.W.mg_none_of X G z_max
  have Z_len := PySem.W.mg_none_of X G z_len
  have Z_abs := PySem.W.mg_none_of X G z_abs
  have Z_int := PySem.W.mg_none_of X G z_int
  have Z_tuple := PySem.W.mg_none_of X G z_tuple
  have Z_min := PySem.W.mg_none_of X G z_min
  have Z_repr := PySem.W.mg_none_of X G z_repr
  have T_DEEDS : KTab K w p_DEEDS tbl_DEEDS := fun e he => by
    simp only [tbl_DEEDS, List.mem_cons, List.not_mem_nil, or_false] at he
    rcases he with rfl | rfl | rfl | rfl | rfl | rfl | rfl
    · exact tab1 (v := .ref f10) lt_DEEDS kl_DEEDS v_DEEDS0 rfl (fix_fn a10)
    · exact tab1 (v := .ref f11) lt_DEEDS kl_DEEDS v_DEEDS1 rfl (fix_fn a11)
    · exact tab1 (v := .ref f12) lt_DEEDS kl_DEEDS v_DEEDS2 rfl (fix_fn a12)
    · exact tab1 (v := .ref f13) lt_DEEDS kl_DEEDS v_DEEDS3 rfl (fix_fn a13)
    · exact tab1 (v := .ref f14) lt_DEEDS kl_DEEDS v_DEEDS4 rfl (fix_fn a14)
    · exact tab1 (v := .ref f5) lt_DEEDS kl_DEEDS v_DEEDS5 rfl (fix_fn a5)
    · exact tab1 (v := .ref f6) lt_DEEDS kl_DEEDS v_DEEDS6 rfl (fix_fn a6)
  have D0 := d_Machine_M___init__ (P := l.prog) (w := w) (base := base) A0 okC Z_range (PySem.W.mg_of X G g_BOXES)
  have D1 := d_is_so (P := l.prog) (w := w) (base := base) A1
  have D2 := d_number_in (P := l.prog) (w := w) (base := base) A2
  have D3 := d_put_in_box (P := l.prog) (w := w) (base := base) A3 okC Z_max
  have D4 := d_go_on (P := l.prog) (w := w) (base := base) A4 okC Z_len
  have D5 := d_do_go (P := l.prog) (w := w) (base := base) A5
  have D6 := d_do_back (P := l.prog) (w := w) (base := base) A6 okC
  have D7 := d__law_pool (P := l.prog) (w := w) (base := base) A7 Z_len Z_abs Z_int
  have D8 := d__law_take (P := l.prog) (w := w) (base := base) A8
  have D9 := d__law_worth (P := l.prog) (w := w) (base := base) A9 Z_int
  have D10 := d_do_take (P := l.prog) (w := w) (base := base) A10 okC Z_len D3 D2
  have D11 := d_do_part (P := l.prog) (w := w) (base := base) A11 okC Z_len D3
  have D12 := d_do_move (P := l.prog) (w := w) (base := base) A12 D4
  have D13 := d_do_skip (P := l.prog) (w := w) (base := base) A13 okC D4
  have D14 := d_do_ask (P := l.prog) (w := w) (base := base) A14 okC D1
  have D15 := d__law_bytes (P := l.prog) (w := w) (base := base) A15 Z_range Z_tuple D8
  have D16 := d__law_drawn_row (P := l.prog) (w := w) (base := base) A16 D8
  have D17 := d__law_told_by (P := l.prog) (w := w) (base := base) A17 Z_int Z_len Z_max D9
  have D18 := d_run (P := l.prog) (w := w) (base := base) A18 MK_Machine (PySem.W.mg_of X G g_DEEDS) T_DEEDS okC D0 D10 D11 D12 D13 D14 D5 D6
  have D19 := d__law_drawn_rows (P := l.prog) (w := w) (base := base) A19 Z_range Z_tuple D8 D16
  exact d_law A20 Z_range Z_max Z_min Z_len Z_repr D7 D19 D15 D18 D17

end K24
end

section
open PySem PySem.W PyProof.Rows
set_option maxHeartbeats 0 in
theorem PySem.Challenge.cw_letterbench_k24_rows_run_holds : PySem.Challenge.rw_letterbench_k24_rows_run.Holds := by
  w_on; o_law; k_head; (case hw => w_witness2)
  k_fill
  refine Mi.walk_m (l := PySem.Challenge.rw_letterbench_k24_rows_run) (n := 63) (k := 4) (x := "_law_script") (m := K24.m_law) rfl (by decide) rfl ⟨rfl, by decide, by decide⟩ (fun w h Y => PySem.W.kIn_of Y) ?F (fun ns hn hb => K24.law_true ns hn)
  case F =>
    intro w mg fa h KX G hmg
    refine' K24.all_mk KX G hmg (n_Machine := ?n_Machine) (pg_Machine := ?pg_Machine) (hd_Machine := ?hd_Machine) (po_Machine := ?po_Machine) (sa_Machine := ?sa_Machine) (mk_Machine := ?mk_Machine) (kc_Machine := ?kc_Machine) (na_Machine_some := ?na_Machine_some) (na_Machine_boxes := ?na_Machine_boxes) (na_Machine_place := ?na_Machine_place) (na_Machine_seen := ?na_Machine_seen) (a0 := ?a0) (fn0 := ?fn0) (l0 := ?l0) (c0 := ?c0) (k0 := ?k0) (a1 := ?a1) (l1 := ?l1) (c1 := ?c1) (k1 := ?k1) (a2 := ?a2) (l2 := ?l2) (c2 := ?c2) (k2 := ?k2) (d2 := ?d2) (a3 := ?a3) (l3 := ?l3) (c3 := ?c3) (k3 := ?k3) (a4 := ?a4) (l4 := ?l4) (c4 := ?c4) (k4 := ?k4) (a5 := ?a5) (l5 := ?l5) (c5 := ?c5) (k5 := ?k5) (a6 := ?a6) (l6 := ?l6) (c6 := ?c6) (k6 := ?k6) (a7 := ?a7) (l7 := ?l7) (c7 := ?c7) (k7 := ?k7) (a8 := ?a8) (l8 := ?l8) (c8 := ?c8) (k8 := ?k8) (a9 := ?a9) (l9 := ?l9) (c9 := ?c9) (k9 := ?k9) (a10 := ?a10) (l10 := ?l10) (c10 := ?c10) (k10 := ?k10) (a11 := ?a11) (l11 := ?l11) (c11 := ?c11) (k11 := ?k11) (a12 := ?a12) (l12 := ?l12) (c12 := ?c12) (k12 := ?k12) (a13 := ?a13) (l13 := ?l13) (c13 := ?c13) (k13 := ?k13) (a14 := ?a14) (l14 := ?l14) (c14 := ?c14) (k14 := ?k14) (a15 := ?a15) (l15 := ?l15) (c15 := ?c15) (k15 := ?k15) (a16 := ?a16) (l16 := ?l16) (c16 := ?c16) (k16 := ?k16) (a17 := ?a17) (l17 := ?l17) (c17 := ?c17) (k17 := ?k17) (a18 := ?a18) (l18 := ?l18) (c18 := ?c18) (k18 := ?k18) (a19 := ?a19) (l19 := ?l19) (c19 := ?c19) (k19 := ?k19) (a20 := ?a20) (l20 := ?l20) (c20 := ?c20) (k20 := ?k20) (g_DEEDS := ?g_DEEDS) (lt_DEEDS := ?lt_DEEDS) (v_DEEDS0 := ?v_DEEDS0) (v_DEEDS1 := ?v_DEEDS1) (v_DEEDS2 := ?v_DEEDS2) (v_DEEDS3 := ?v_DEEDS3) (v_DEEDS4 := ?v_DEEDS4) (v_DEEDS5 := ?v_DEEDS5) (v_DEEDS6 := ?v_DEEDS6) (z_range := ?z_range) (z_max := ?z_max) (z_len := ?z_len) (z_abs := ?z_abs) (z_int := ?z_int) (z_tuple := ?z_tuple) (z_min := ?z_min) (z_repr := ?z_repr) (g_BOXES := ?g_BOXES) (kl_DEEDS := ?kl_DEEDS)
    (case n_Machine => k_is)
    (case pg_Machine => k_is)
    (case hd_Machine => k_is)
    (case po_Machine => k_is)
    (case sa_Machine => k_is)
    (case mk_Machine => k_is)
    (case kc_Machine => k_is)
    (case na_Machine_some => k_is)
    (case na_Machine_boxes => k_is)
    (case na_Machine_place => k_is)
    (case na_Machine_seen => k_is)
    (case a0 => k_is)
    (case fn0 => k_is)
    (case l0 => k_is)
    (case c0 => k_is)
    (case k0 => k_is)
    (case a1 => k_is)
    (case l1 => k_is)
    (case c1 => k_is)
    (case k1 => k_is)
    (case a2 => k_is)
    (case l2 => k_is)
    (case c2 => k_is)
    (case k2 => k_is)
    (case d2 => k_is)
    (case a3 => k_is)
    (case l3 => k_is)
    (case c3 => k_is)
    (case k3 => k_is)
    (case a4 => k_is)
    (case l4 => k_is)
    (case c4 => k_is)
    (case k4 => k_is)
    (case a5 => k_is)
    (case l5 => k_is)
    (case c5 => k_is)
    (case k5 => k_is)
    (case a6 => k_is)
    (case l6 => k_is)
    (case c6 => k_is)
    (case k6 => k_is)
    (case a7 => k_is)
    (case l7 => k_is)
    (case c7 => k_is)
    (case k7 => k_is)
    (case a8 => k_is)
    (case l8 => k_is)
    (case c8 => k_is)
    (case k8 => k_is)
    (case a9 => k_is)
    (case l9 => k_is)
    (case c9 => k_is)
    (case k9 => k_is)
    (case a10 => k_is)
    (case l10 => k_is)
    (case c10 => k_is)
    (case k10 => k_is)
    (case a11 => k_is)
    (case l11 => k_is)
    (case c11 => k_is)
    (case k11 => k_is)
    (case a12 => k_is)
    (case l12 => k_is)
    (case c12 => k_is)
    (case k12 => k_is)
    (case a13 => k_is)
    (case l13 => k_is)
    (case c13 => k_is)
    (case k13 => k_is)
    (case a14 => k_is)
    (case l14 => k_is)
    (case c14 => k_is)
    (case k14 => k_is)
    (case a15 => k_is)
    (case l15 => k_is)
    (case c15 => k_is)
    (case k15 => k_is)
    (case a16 => k_is)
    (case l16 => k_is)
    (case c16 => k_is)
    (case k16 => k_is)
    (case a17 => k_is)
    (case l17 => k_is)
    (case c17 => k_is)
    (case k17 => k_is)
    (case a18 => k_is)
    (case l18 => k_is)
    (case c18 => k_is)
    (case k18 => k_is)
    (case a19 => k_is)
    (case l19 => k_is)
    (case c19 => k_is)
    (case k19 => k_is)
    (case a20 => k_is)
    (case l20 => k_is)
    (case c20 => k_is)
    (case k20 => k_is)
    (case g_DEEDS => k_is)
    (case lt_DEEDS => k_is)
    (case v_DEEDS0 => k_is)
    (case v_DEEDS1 => k_is)
    (case v_DEEDS2 => k_is)
    (case v_DEEDS3 => k_is)
    (case v_DEEDS4 => k_is)
    (case v_DEEDS5 => k_is)
    (case v_DEEDS6 => k_is)
    (case z_range => k_is)
    (case z_max => k_is)
    (case z_len => k_is)
    (case z_abs => k_is)
    (case z_int => k_is)
    (case z_tuple => k_is)
    (case z_min => k_is)
    (case z_repr => k_is)
    (case g_BOXES => k_is)
    (case kl_DEEDS => exact ⟨⟨_, _, rfl, rfl⟩, ⟨_, _, rfl, rfl⟩, ⟨_, _, rfl, rfl⟩, ⟨_, _, rfl, rfl⟩, ⟨_, _, rfl, rfl⟩, ⟨_, _, rfl, rfl⟩, ⟨_, _, rfl, rfl⟩, trivial⟩)

end
