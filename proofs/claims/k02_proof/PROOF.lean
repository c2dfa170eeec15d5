import PyProof.Rows.All
import Wide.All
import OpenK.AllK
import Wide.FinOn
import KE.KStateDown
import KE.DataMinMax
import KE.DatumOrd
import HandS.SortKw
import HandS.ForMost
import HandS.Property
import HandS.MakeKw
import HandS.FStr
import HandS.Star
import HandS.OwnEq
import HandS.IsInst
import HandS.Codes
import HandS.More
import HandS.Flow
import HandS.RaiseMore
import HandS.Defaults
import HandS.Style
import HandS.Conv
import HandS.Small
import HandS.Zip
import HandS.Wide
import HandS.Exc
import HandS.WordsExc
import HandS.Head0
import HandS.Head1
import HandS.Head2
import HandS.HeadEnd
import HandS.HeadHook1
import HandS.HeadHook2
import HandS.ClsMeth
import PySem.Challenge.RW_splitplans_k02_second_stories_of_terms
import KE.KCallOwn
import HandS.MakeKwOnly
import KE.GoesZip
import KE.GoesMore
import HandS.Zip0
import HandS.GenList
import HandS.GenYield
import HandS.Strs
import HandS.TupSets
import PyProof.Rows.SortShellAny
set_option Elab.async false
set_option linter.all false
set_option maxRecDepth 100000
set_option maxHeartbeats 0
/-! ## the head: a Hook that tells every def by its own place in the written part -/
namespace Hd
open PySem PySem.Spec PyProof.Rows L2
abbrev Dn : Type := (PySem.W.Frag → Addr) × He.DefD
def inRec (kind : String) (c m : Str) (K : PySem.W.Frag) : Addr := match PySem.W.recIn K (He.ma K (He.ga K c) m) kind with
  | some (.ref g :: _) => g
  | _ => 0
def dG (x : Str) (st : Stmt) (dfl : List He.Dv) (kw : List (Str × He.Dv)) : Dn := (fun K => He.ga K x, ⟨(x, none), x, x, defArgs st, defBody st, defScope st, dfl, kw⟩)
def dM (c m q : Str) (st : Stmt) (dfl : List He.Dv) (kw : List (Str × He.Dv)) : Dn := (fun K => He.ma K (He.ga K c) m, ⟨(c, some m), m, q, defArgs st, defBody st, defScope st, dfl, kw⟩)
def dR (kind : String) (c m q : Str) (st : Stmt) (dfl : List He.Dv) (kw : List (Str × He.Dv)) : Dn := (fun K => inRec kind c m K, ⟨(c, some m), m, q, defArgs st, defBody st, defScope st, dfl, kw⟩)
/-- the parts of the function object at an address that a def's text fixes -/
def shown (K : PySem.W.Frag) (a : Addr) : He.FnW := (K.lookup a).bind fun o => match o.data with
  | .func f => some (f.name, f.qualname, f.params, f.body, f.scope, f.globals, f.closure, f.builtins)
  | _ => none
def sound (K : PySem.W.Frag) (d : Dn) : Bool := PySem.W.keepIn K (.ref (d.1 K)) && (((K.lookup (d.1 K)).bind fun o => match o.data with
  | .func f => some (PySem.W.codeIn K f.code d.2.qual && (He.dflB K f.defaults (d.2.dvs K) && He.kwdB K f.kwdefaults (d.2.kws K)))
  | _ => none).getD false)
theorem sound_fun {K : PySem.W.Frag} {d : Dn} (e : shown K (d.1 K) = d.2.val) (c : sound K d = true) :
    ∃ fd, FunD K d.2.name d.2.qual d.2.params d.2.body d.2.scope (d.2.dvs K) (d.2.kws K) (d.1 K) fd := by
  obtain ⟨keep, c2⟩ := Bool.and_eq_true_iff.mp c
  unfold shown at e
  rcases look : K.lookup (d.1 K) with _ | ⟨oc, od, dt, osl⟩
  · rw [look] at e
    cases e
  · rw [look] at e c2
    rcases dt with _ | _ | _ | _ | _ | _ | _ | _ | _ | _ | _ | _ | _
    all_goals first
      | (cases e; done)
      | skip
    all_goals
      rename_i fd
      obtain ⟨m1, m2, m3, m4, m5, m6, m7, m8, m9, m10, m11, m12, m13, m14, m15⟩ := fd
      have e' : (some (m1, m2, m3, m4, m5, m6, m7, m15) : He.FnW) = some (d.2.name, d.2.qual, d.2.params, .stmts d.2.body, d.2.scope, mainGlobals, [], builtinsNs) := e
      simp only [Option.some.injEq, Prod.mk.injEq] at e'
      obtain ⟨rfl, rfl, rfl, rfl, rfl, rfl, rfl, rfl⟩ := e'
      have c3 : (PySem.W.codeIn K m13 d.2.qual && (He.dflB K m8 (d.2.dvs K) && He.kwdB K m9 (d.2.kws K))) = true := c2
      obtain ⟨c4, c5⟩ := Bool.and_eq_true_iff.mp c3
      obtain ⟨c6, c7⟩ := Bool.and_eq_true_iff.mp c5
      exact ⟨_, ⟨oc, od, m8, m9, m10, m11, m12, m13, m14, osl, rfl, look, c4, He.dflB_ok c6, He.kwdB_ok c7⟩, keep⟩
/-! more facts, each a Bool over the written part -/
def propB (c f : Str) (K : PySem.W.Frag) : Bool :=
  He.eqO (PySem.W.findIn K (.ref (He.ga K c)) f) (some (some (.ref (He.ma K (He.ga K c) f)))) && (decide (PySem.W.specialIn K (.ref (He.ma K (He.ga K c) f)) "__get__" = some (some (.builtin "property.__get__"))) &&
    (decide (PySem.W.takesIn K (.ref (He.ma K (He.ga K c) f)) = some true) && (match PySem.W.recIn K (He.ma K (He.ga K c) f) "property" with | some (.ref g :: _) => decide (g = inRec "property" c f K) | _ => false)))
theorem propB_ok {c f : Str} {K : PySem.W.Frag} (h : propB c f K = true) : PropOf K (He.ga K c) f (He.ma K (He.ga K c) f) (inRec "property" c f K) := by
  obtain ⟨h1, h⟩ := Bool.and_eq_true_iff.mp h
  obtain ⟨h2, h⟩ := Bool.and_eq_true_iff.mp h
  obtain ⟨h3, h4⟩ := Bool.and_eq_true_iff.mp h
  refine ⟨He.eqO_ok h1, of_decide_eq_true h2, of_decide_eq_true h3, ?_⟩
  cases e : PySem.W.recIn K (He.ma K (He.ga K c) f) "property" with
  | none => rw [e] at h4; cases h4
  | some l =>
    rw [e] at h4
    cases l with
    | nil => cases h4
    | cons v r =>
      cases v with
      | ref g => exact ⟨r, by rw [of_decide_eq_true h4]⟩
      | _ => cases h4
def insB (c : Str) (K : PySem.W.Frag) : Bool := He.eqO (PySem.W.findIn K (.ref (He.ga K c)) "__class__") (some (some (.builtin "object.__class__"))) &&
  (decide (PySem.W.specialIn K (.builtin "object.__class__") "__get__" = some (some (.builtin "getset_descriptor.__get__"))) && (decide (PySem.W.takesIn K (.builtin "object.__class__") = some true) &&
    (decide (PySem.W.mroIn K (He.ga K c) (.type "object") = some true) && (decide (PySem.W.kitOne K (.ref (He.ga K c)) (.ref (He.ga K c)) = some true) && (PySem.W.notFirst K (He.ga K c) (.ref (He.ga K c)))))))
structure InsF (K : PySem.W.Frag) (C : Addr) : Prop where
  ha : PySem.W.findIn K (.ref C) "__class__" = some (some (.builtin "object.__class__"))
  hn : PySem.W.specialIn K (.builtin "object.__class__") "__get__" = some (some (.builtin "getset_descriptor.__get__"))
  htk : PySem.W.takesIn K (.builtin "object.__class__") = some true
  hm : PySem.W.mroIn K C (.type "object") = some true
  me : PySem.W.kitOne K (.ref C) (.ref C) = some true
  nf : PySem.W.notFirst K C (.ref C) = true
theorem insB_ok {c : Str} {K : PySem.W.Frag} (h : insB c K = true) : InsF K (He.ga K c) := by
  obtain ⟨h1, h⟩ := Bool.and_eq_true_iff.mp h
  obtain ⟨h2, h⟩ := Bool.and_eq_true_iff.mp h
  obtain ⟨h3, h⟩ := Bool.and_eq_true_iff.mp h
  obtain ⟨h4, h⟩ := Bool.and_eq_true_iff.mp h
  obtain ⟨h5, h6⟩ := Bool.and_eq_true_iff.mp h
  exact ⟨He.eqO_ok h1, of_decide_eq_true h2, of_decide_eq_true h3, of_decide_eq_true h4, of_decide_eq_true h5, h6⟩
/-- no value of this built-in type is an instance of the class, none goes first -/
def kitsB (c : Str) (ts : List String) (K : PySem.W.Frag) : Bool := ts.all fun t => decide (PySem.W.kitOne K (.type t) (.ref (He.ga K c)) = some false) && PySem.W.notFirst K (He.ga K c) (.type t)
theorem kitsB_ok {c : Str} {ts : List String} {K : PySem.W.Frag} (h : kitsB c ts K = true) {t : String} (ht : t ∈ ts) : PySem.W.kitOne K (.type t) (.ref (He.ga K c)) = some false ∧ PySem.W.notFirst K (He.ga K c) (.type t) = true := by
  obtain ⟨h1, h2⟩ := Bool.and_eq_true_iff.mp (List.all_eq_true.mp h t ht)
  exact ⟨of_decide_eq_true h1, h2⟩
def attB (c m : Str) (v : Value) (K : PySem.W.Frag) : Bool := He.eqO (PySem.W.findIn K (.ref (He.ga K c)) m) (some (some v))
abbrev Al : Type := Bool × List He.FnW
def seenBy (fa : List He.Fa) (ex : PySem.W.Frag → Bool) (fn : List Dn) (K : PySem.W.Frag) : Al := ((fa.all fun f => f.ok K) && (ex K && fn.all fun d => sound K d), fn.map fun d => shown K (d.1 K))
def wanted (fn : List Dn) : Al := (true, fn.map fun d => d.2.val)
def Says (fa : List He.Fa) (ex : PySem.W.Frag → Bool) (fn : List Dn) (K : PySem.W.Frag) : Prop := seenBy fa ex fn K = wanted fn
def atHeap (n : Nat) (fa : List He.Fa) (ex : PySem.W.Frag → Bool) (fn : List Dn) (g : Addr → Option Obj) : Al := seenBy fa ex fn (He.frG g (He.asD g n))
def hook (n : Nat) (fa : List He.Fa) (ex : PySem.W.Frag → Bool) (fn : List Dn) : PySem.W.Hook where
  α := Al
  obs := fun s => atHeap n fa ex fn s.heap.get?
  val := fun _ => wanted fn
  says := fun _ h => ∃ K : PySem.W.Frag, K.In h ∧ Says fa ex fn K
  of := fun _ _ e => ⟨_, He.frG_in, e⟩
  keeps := fun _ _ _ ⟨K, hK, c⟩ k => ⟨K, PySem.W.Frag.In.keeps hK k, c⟩
theorem at_eq {n : Nat} {fa : List He.Fa} {ex : PySem.W.Frag → Bool} {fn : List Dn} {g : Addr → Option Obj} {s : Shared} (h : ∀ a, g a = s.heap.get? a) : atHeap n fa ex fn g = (hook n fa ex fn).obs s := by
  obtain rfl : g = s.heap.get? := funext h
  rfl
section
variable {fa : List He.Fa} {ex : PySem.W.Frag → Bool} {fn : List Dn} {K : PySem.W.Frag}
theorem Says.fst (c : Says fa ex fn K) : ((fa.all fun f => f.ok K) && (ex K && fn.all fun d => sound K d)) = true := congrArg (fun z : Al => z.1) c
theorem Says.fact (c : Says fa ex fn K) {f : He.Fa} (h : f ∈ fa) : f.ok K = true := List.all_eq_true.mp (Bool.and_eq_true_iff.mp c.fst).1 f h
theorem Says.more (c : Says fa ex fn K) : ex K = true := (Bool.and_eq_true_iff.mp (Bool.and_eq_true_iff.mp c.fst).2).1
theorem Says.fun_ (c : Says fa ex fn K) (i : Nat) {d : Dn} (h : fn[i]? = some d) : ∃ fd, FunD K d.2.name d.2.qual d.2.params d.2.body d.2.scope (d.2.dvs K) (d.2.kws K) (d.1 K) fd := by
  have all := List.all_eq_true.mp (Bool.and_eq_true_iff.mp (Bool.and_eq_true_iff.mp c.fst).2).2 d (List.mem_of_getElem? h)
  have e : fn.map (fun d => shown K (d.1 K)) = fn.map fun d => d.2.val := congrArg (fun z : Al => z.2) c
  have e2 : (fn.map fun d => shown K (d.1 K))[i]? = (fn.map fun d => d.2.val)[i]? := by rw [e]
  rw [List.getElem?_map, List.getElem?_map, h] at e2
  exact sound_fun (Option.some.inj e2) all
end
end Hd
/-! ## short words over the layer -/
namespace Bs
open PySem PySem.Spec PyProof.Rows L2
variable {P : Program} {w : World} {K : PySem.W.Frag} {mg : Str → Option Value} {base : Heap}
/-- a promise's def, called by its name, no defaults asked -/
theorem mkCal {nm qual x : Str} {par : Arguments} {bd : List Stmt} {sco : Scope} {N ps : List Str} {k : Nat} {sp : Sp} {kws : List (Str × V)} {dvs dvs' : List V} {ds : List Value} {a : Addr} {fd : FuncData}
    (F : FunD K nm qual par bd sco dvs' kws a fd) (hm : mg x = some (.ref a)) (b : Binds K fd ps ds) (v : Vals dvs ds) (S : FnScope N ps sco) (len : ∀ vs H Q E, sp vs H Q E → vs.length = ps.length)
    (body : ∀ (cdv : Value) (A : Around) (outer : List Env) (s : Shared) (H : Hp) (vs : List V) (Q : VK) (E : XK), Room k (A.deeper (envOfC qual sco s.heap.objs.size a cdv)) → sp vs H Q E →
      ∃ t, PSs (cxOf C8.CX0 P w K mg base N qual sco a cdv A outer s H E).nox bd t ∧ t { nx := fun _ H' => Q .non H', rt := Q } (start N vs) H) : C8.Cal P w K mg base (k + 1) x sp dvs :=
  ⟨a, fd, ps, ds, F.ok S len fun cdv A outer s H vs Q E hr h => let ⟨t, h1, h2⟩ := body cdv A outer s H vs Q E hr h
    ⟨t, h1.nox, h2⟩, hm, F.kp, b, v⟩
theorem Cal.mono {j k : Nat} {x : Str} {sp : Sp} {dvs : List V} (c : C8.Cal P w K mg base j x sp dvs) (h : j ≤ k) : C8.Cal P w K mg base k x sp dvs := by
  obtain ⟨f, fd, ps, ds, F, r⟩ := c.ex
  exact ⟨f, fd, ps, ds, F.mono h, r⟩
/-- all is kept but what stands at p -/
def Kp (p : Addr) (H H' : Hp) : Prop := ∀ b o, H b = some o → b ≠ p → H' b = some o
theorem Kp.refl (p : Addr) (H : Hp) : Kp p H H := fun _ _ e _ => e
theorem Kp.trans {p : Addr} {H H1 H2 : Hp} (a : Kp p H H1) (b : Kp p H1 H2) : Kp p H H2 := fun c o e n => b c o (a c o e n) n
theorem Kp.of {p : Addr} {H H' : Hp} (a : Same H H') : Kp p H H' := fun c o e _ => a c o e
theorem Kp.upd {p : Addr} {H : Hp} {o : HO} : Kp p H (upd H p o) := fun c u e n => by rw [upd_ne n]; exact e
theorem Kp.new {p q : Addr} {H H' : Hp} {o : HO} (a : Kp p H H') (hq : H' q = none) : Kp p H (L2.upd H' q o) := fun c u e n => by rw [upd_ne (ne_of_none (a c u e n) hq)]; exact a c u e n
theorem Kp.put {p : Addr} {H H' : Hp} {o : HO} (a : Kp p H H') : Kp p H (L2.upd H' p o) := fun c u e n => by rw [upd_ne n]; exact a c u e n
/-- a step at an address that was free when the count began -/
theorem Kp.loc {p q : Addr} {H H' : Hp} {o : HO} (a : Kp p H H') (hq : H q = none) : Kp p H (L2.upd H' q o) := fun c u e n => by rw [upd_ne (ne_of_none e hq)]; exact a c u e n
theorem Same.new {q : Addr} {H H' : Hp} {o : HO} (a : Same H H') (hq : H' q = none) : Same H (L2.upd H' q o) := fun c u e => by rw [upd_ne (ne_of_none (a c u e) hq)]; exact a c u e
theorem Same.loc {q : Addr} {H H' : Hp} {o : HO} (a : Same H H') (hq : H q = none) : Same H (L2.upd H' q o) := fun c u e => by rw [upd_ne (ne_of_none e hq)]; exact a c u e
theorem SqL.kp {p a : Addr} {H H' : Hp} {xs : List V} (h : SqL K H a xs) (k : Kp p H H') (n : ∀ o, H a = some o → a ≠ p) : SqL K H' a xs := by
  rcases h with (h | ⟨o, h⟩) | h
  · exact .inl (.inl (k a _ h (n _ h)))
  · exact .inl (.inr ⟨o, k a _ h (n _ h)⟩)
  · exact .inr h
theorem SqT.kp {p a : Addr} {H H' : Hp} {xs : List V} (h : SqT K H a xs) (k : Kp p H H') (n : ∀ o, H a = some o → a ≠ p) : SqT K H' a xs := by
  rcases h with (h | ⟨o, h⟩) | h
  · exact .inl (.inl (k a _ h (n _ h)))
  · exact .inl (.inr ⟨o, k a _ h (n _ h)⟩)
  · exact .inr h
/-- the pen's dict: the script, the place of the next cell, what is left of a large one -/
def penD (a : Addr) (i l : Int) : HO := .dK [(Sum.inr "script", .ref a), (Sum.inr "at", .int i), (Sum.inr "left", .int l)]
/-- a locked list: nothing that runs changes it -/
def Fz (K : PySem.W.Frag) (H : Hp) (a : Addr) (xs : List V) : Prop := (∃ o, H a = some (.frz o (.lst xs))) ∨ ∀ H' : Hp, SqL K H' a xs
theorem Fz.sq {H : Hp} {a : Addr} {xs : List V} (h : Fz K H a xs) : SqL K H a xs := by
  rcases h with ⟨o, h⟩ | h
  · exact .inl (.inr ⟨o, h⟩)
  · exact h H
theorem Fz.to {H H' : Hp} {a : Addr} {xs : List V} (h : Fz K H a xs) (k : ∀ o u, H a = some (.frz o u) → H' a = some (.frz o u)) : Fz K H' a xs := by
  rcases h with ⟨o, h⟩ | h
  · exact .inl ⟨o, k _ _ h⟩
  · exact .inr h
theorem Fz.only {H : Hp} {a : Addr} {xs : List V} (o : Only H) (h : SqL K H a xs) : Fz K H a xs := by
  rcases h with (h | h) | h
  · rcases o a with e | ⟨_, _, e⟩
    · rw [e] at h; cases h
    · rw [e] at h; cases h
  · exact .inl h
  · exact .inr fun _ => .inr h
/-- what is at q is no locked thing -/
def Loose (H : Hp) (q : Addr) : Prop := ∀ o u, H q ≠ some (.frz o u)
theorem Loose.nil {H : Hp} {q : Addr} (h : H q = none) : Loose H q := fun o u e => by rw [h] at e; cases e
theorem Loose.lst {H : Hp} {q : Addr} {xs : List V} (h : H q = some (.lst xs)) : Loose H q := fun o u e => by rw [h] at e; cases e
theorem Loose.dK {H : Hp} {q : Addr} {xs : List (Key × V)} (h : H q = some (.dK xs)) : Loose H q := fun o u e => by rw [h] at e; cases e
theorem Fz.upd {H : Hp} {q a : Addr} {xs : List V} {u : HO} (h : Fz K H a xs) (l : Loose H q) : Fz K (L2.upd H q u) a xs :=
  h.to fun o v e => by rw [upd_ne (fun z => l o v (by rw [← z]; exact e))]; exact e
/-- a pen at p that has drawn at most n cells -/
def Pen (K : PySem.W.Frag) (H : Hp) (p : Addr) (n : Nat) : Prop := ∃ (a : Addr) (ns : List Int) (i l : Int), H p = some (penD a i l) ∧ Fz K H a (ns.map V.int) ∧ ns.length ≤ 63 ∧ 0 ≤ i ∧ i ≤ n ∧ 0 ≤ l
theorem Pen.mono {H : Hp} {p : Addr} {n m : Nat} (h : Pen K H p n) (l : n ≤ m) : Pen K H p m := by
  obtain ⟨a, ns, i, q, h1, h2, h3, h4, h5, h6⟩ := h
  exact ⟨a, ns, i, q, h1, h2, h3, h4, by omega, h6⟩
theorem Fz.kpen {H H' : Hp} {p a : Addr} {i l : Int} {b : Addr} {xs : List V} (h : H p = some (penD a i l)) (s : Fz K H b xs) (k : Kp p H H') : Fz K H' b xs :=
  s.to fun o u e => k b _ e (ne_of e h (by intro z; cases z))
/-- other objects are made or changed, the pen is not -/
theorem Pen.same {H H' : Hp} {p : Addr} {n : Nat} (h : Pen K H p n) (k : Same H H') : Pen K H' p n := by
  obtain ⟨a, ns, i, q, h1, h2, h3, h4, h5, h6⟩ := h
  exact ⟨a, ns, i, q, k _ _ h1, h2.to fun _ _ e => k _ _ e, h3, h4, h5, h6⟩
theorem Pen.upd {H : Hp} {p q : Addr} {n : Nat} {o : HO} (h : Pen K H p n) (hq : H q = none) : Pen K (L2.upd H q o) p n := h.same (Same.new (Same.refl H) hq)
theorem Pen.put {H : Hp} {p q : Addr} {n : Nat} {o : HO} {xs : List V} (h : Pen K H p n) (hq : H q = .some (.lst xs)) : Pen K (L2.upd H q o) p n := by
  obtain ⟨a, ns, i, l, h1, h2, h3, h4, h5, h6⟩ := h
  exact ⟨a, ns, i, l, by rw [upd_ne (ne_of h1 hq (by intro z; cases z))]; exact h1, h2.upd (Loose.lst hq), h3, h4, h5, h6⟩
theorem Kp.free {p D : Addr} {H H' : Hp} (k : Kp p H H') (h : H' D = none) (hp : H' p ≠ none) : H D = none := by
  have ne : D ≠ p := fun q => hp (by rw [← q]; exact h)
  cases e : H D with
  | none => rfl
  | some o => rw [k D o e ne] at h; cases h
theorem Pen.ne {H : Hp} {p D : Addr} {n : Nat} (h : Pen K H p n) (e : H D = none) : D ≠ p := by
  obtain ⟨_, _, _, _, hp, _⟩ := h
  exact (ne_of_none hp e).symm
theorem Pen.there {H : Hp} {p : Addr} {n : Nat} (h : Pen K H p n) : H p ≠ none := by
  obtain ⟨_, _, _, _, hp, _⟩ := h
  rw [hp]
  exact fun q => by cases q
theorem Pen.nel {H : Hp} {p D : Addr} {n : Nat} {xs : List V} (h : Pen K H p n) (e : H D = .some (.lst xs)) : D ≠ p := by
  obtain ⟨_, _, _, _, hp, _⟩ := h
  exact ne_of e hp (by intro z; cases z)
theorem Pen.net {H : Hp} {p D : Addr} {n : Nat} {xs : List V} (h : Pen K H p n) (e : H D = .some (.tup xs)) : D ≠ p := by
  obtain ⟨_, _, _, _, hp, _⟩ := h
  exact ne_of e hp (by intro z; cases z)
theorem script_ne : ¬ (("script" : Str) = "at") ∧ ¬ (("script" : Str) = "left") ∧ ¬ (("at" : Str) = "left") ∧ ¬ (("at" : Str) = "script") ∧ ¬ (("left" : Str) = "script") ∧ ¬ (("left" : Str) = "at") := by decide +kernel
theorem atI_of {α : Type} {xs : List α} {k : Int} (h0 : 0 ≤ k) (h1 : k < (xs.length : Nat)) : ∃ v, atI xs k = some v ∧ v ∈ xs ∧ xs[k.toNat]? = some v := by
  have hk : k.toNat < xs.length := by omega
  have ek : k = ((k.toNat : Nat) : Int) := by omega
  refine ⟨xs[k.toNat], ?_, List.getElem_mem hk, List.getElem?_eq_getElem hk⟩
  have z : atI xs ((k.toNat : Nat) : Int) = some xs[k.toNat] := atI_nat (List.getElem?_eq_getElem hk)
  rw [← ek] at z
  exact z
theorem atI_int {ns : List Int} {k : Int} (h0 : 0 ≤ k) (h1 : k < (ns.length : Nat)) : ∃ v : Int, atI (ns.map V.int) k = some (.int v) ∧ v ∈ ns := by
  obtain ⟨x, e, hx, _⟩ := atI_of (xs := ns.map V.int) h0 (by rw [List.length_map]; exact h1)
  obtain ⟨v, hv, rfl⟩ := List.mem_map.mp hx
  exact ⟨v, e, hv⟩
end Bs
namespace Pf
open PySem PySem.Spec PyProof.Rows L2
def top (i : Nat) : Stmt := PySem.Challenge.pw_splitplans_k02_second_stories_of_terms.main.body.getD i (.Pass ⟨0, 0, 0, 0⟩)
abbrev s_Term_init : Stmt := inClass (top 12) 0
abbrev s_Term_depth : Stmt := inClass (top 12) 2
abbrev s_Term_second : Stmt := inClass (top 12) 3
abbrev s_Term_row_names : Stmt := inClass (top 12) 4
abbrev s_Term_subterms : Stmt := inClass (top 12) 5
abbrev s_Term_eq : Stmt := inClass (top 12) 6
abbrev s_Term_str : Stmt := inClass (top 12) 7
abbrev s_row_term : Stmt := top 13
abbrev s_column_term : Stmt := top 14
abbrev s_place_term : Stmt := top 15
abbrev s_zero_term : Stmt := top 16
abbrev s_function_term : Stmt := top 17
abbrev s_rule_term : Stmt := top 18
abbrev s_text_of : Stmt := top 19
abbrev s_find_subterms : Stmt := top 20
abbrev s_Lpen : Stmt := top 27
abbrev s_Ldraw : Stmt := top 28
abbrev s_Lwords : Stmt := top 29
abbrev s_Lnames : Stmt := top 30
abbrev s_Ltext : Stmt := top 31
abbrev s_Llot : Stmt := top 32
abbrev s_Lrow : Stmt := top 33
abbrev s_Lcolumn : Stmt := top 34
abbrev s_Lvalue : Stmt := top 35
abbrev s_Lterm : Stmt := top 36
abbrev s_Lapplied : Stmt := top 37
abbrev s_Lbuilt : Stmt := top 38
abbrev s_Lis : Stmt := top 39
abbrev s_Ldepth : Stmt := top 40
abbrev s_Lsecond : Stmt := top 41
abbrev s_Lrows : Stmt := top 42
abbrev s_Lright : Stmt := top 43
abbrev s_law : Stmt := top 44
def d_Term_init : Hd.Dn := Hd.dM "Term" "__init__" "Term.__init__" s_Term_init [.bl false] []
def d_Term_depth : Hd.Dn := Hd.dR "property" "Term" "depth" "Term.depth" s_Term_depth [] []
def d_Term_second : Hd.Dn := Hd.dM "Term" "second" "Term.second" s_Term_second [] []
def d_Term_row_names : Hd.Dn := Hd.dM "Term" "row_names" "Term.row_names" s_Term_row_names [] []
def d_Term_subterms : Hd.Dn := Hd.dM "Term" "subterms" "Term.subterms" s_Term_subterms [] []
def d_Term_eq : Hd.Dn := Hd.dM "Term" "__eq__" "Term.__eq__" s_Term_eq [] []
def d_Term_str : Hd.Dn := Hd.dM "Term" "__str__" "Term.__str__" s_Term_str [] []
def d_row_term : Hd.Dn := Hd.dG "row_term" s_row_term [.bl false] []
def d_column_term : Hd.Dn := Hd.dG "column_term" s_column_term [.bl false] []
def d_place_term : Hd.Dn := Hd.dG "place_term" s_place_term [.bl false] []
def d_zero_term : Hd.Dn := Hd.dG "zero_term" s_zero_term [] []
def d_function_term : Hd.Dn := Hd.dG "function_term" s_function_term [] []
def d_rule_term : Hd.Dn := Hd.dG "rule_term" s_rule_term [] []
def d_text_of : Hd.Dn := Hd.dG "_text_of" s_text_of [] []
def d_find_subterms : Hd.Dn := Hd.dG "_find_subterms" s_find_subterms [] []
def d_Lpen : Hd.Dn := Hd.dG "_law_pen" s_Lpen [] []
def d_Ldraw : Hd.Dn := Hd.dG "_law_draw" s_Ldraw [] []
def d_Lwords : Hd.Dn := Hd.dG "_law_words" s_Lwords [] []
def d_Lnames : Hd.Dn := Hd.dG "_law_names" s_Lnames [] []
def d_Ltext : Hd.Dn := Hd.dG "_law_text" s_Ltext [] []
def d_Llot : Hd.Dn := Hd.dG "_law_lot" s_Llot [] []
def d_Lrow : Hd.Dn := Hd.dG "_law_row" s_Lrow [] []
def d_Lcolumn : Hd.Dn := Hd.dG "_law_column" s_Lcolumn [] []
def d_Lvalue : Hd.Dn := Hd.dG "_law_value" s_Lvalue [] []
def d_Lterm : Hd.Dn := Hd.dG "_law_term" s_Lterm [] []
def d_Lapplied : Hd.Dn := Hd.dG "_law_applied" s_Lapplied [] []
def d_Lbuilt : Hd.Dn := Hd.dG "_law_built" s_Lbuilt [] []
def d_Lis : Hd.Dn := Hd.dG "_law_is" s_Lis [] []
def d_Ldepth : Hd.Dn := Hd.dG "_law_depth" s_Ldepth [] []
def d_Lsecond : Hd.Dn := Hd.dG "_law_second" s_Lsecond [] []
def d_Lrows : Hd.Dn := Hd.dG "_law_rows" s_Lrows [] []
def d_Lright : Hd.Dn := Hd.dG "_law_right" s_Lright [] []
def d_law : Hd.Dn := Hd.dG "law" s_law [] []
def defs : List Hd.Dn := [d_Term_init, d_Term_depth, d_Term_second, d_Term_row_names, d_Term_subterms, d_Term_eq, d_Term_str, d_row_term, d_column_term, d_place_term, d_zero_term, d_function_term, d_rule_term, d_text_of, d_find_subterms, d_Lpen, d_Ldraw, d_Lwords, d_Lnames, d_Ltext, d_Llot, d_Lrow, d_Lcolumn, d_Lvalue, d_Lterm, d_Lapplied, d_Lbuilt, d_Lis, d_Ldepth, d_Lsecond, d_Lrows, d_Lright, d_law]
def fa : List He.Fa := [.glo "PlanError", .glo "InputError", .glo "InvalidTerm", .glo "is_name", .glo "Term", .glo "row_term", .glo "column_term", .glo "place_term", .glo "zero_term", .glo "function_term", .glo "rule_term", .glo "_text_of", .glo "_find_subterms", .glo "_read_term", .glo "_read_row", .glo "_read_value", .glo "_read_call", .glo "_pieces", .glo "_law_pen", .glo "_law_draw", .glo "_law_words", .glo "_law_names", .glo "_law_text", .glo "_law_lot", .glo "_law_row", .glo "_law_column", .glo "_law_value", .glo "_law_term", .glo "_law_applied", .glo "_law_built", .glo "_law_is", .glo "_law_depth", .glo "_law_second", .glo "_law_rows", .glo "_law_right", .glo "law", .free "abs", .free "all", .free "bool", .free "int", .free "isinstance", .free "len", .free "list", .free "max", .free "range", .free "set", .free "sorted", .free "str", .free "tuple", .free "zip", .cls "Term", .mkr "Term", .noat "Term" "kind", .noat "Term" "name", .noat "Term" "parts", .noat "Term" "marked", .noat "Term" "text", .noat "Term" "_depth", .meth "Term" "__init__", .meth "Term" "__eq__", .meth "Term" "__str__", .meth "Term" "second", .meth "Term" "row_names", .meth "Term" "subterms"]
def loose0 : List PySem.Str := ["PlanError", "InputError", "InvalidTerm", "MOST_CHARACTERS", "LETTERS", "CHARACTERS", "WORDS", "is_name", "MOST_PARTS", "Term", "row_term", "column_term", "place_term", "zero_term", "function_term", "rule_term", "_text_of", "_find_subterms", "_read_term", "_read_row"]
def loose1 : List PySem.Str := ["_read_value", "_read_call", "_pieces", "_law_pen", "_law_draw", "_law_words", "_law_names", "_law_text", "_law_lot", "_law_row", "_law_column", "_law_value", "_law_term", "_law_applied", "_law_built", "_law_is", "_law_depth", "_law_second", "_law_rows", "_law_right"]
def looseN : List PySem.Str := loose0 ++ loose1
def ex (K : PySem.W.Frag) : Bool := (Hd.insB "Term" K && (Hd.kitsB "Term" ["NoneType", "bool", "int", "str", "list", "tuple", "dict"] K && (Hd.propB "Term" "depth" K && (Hd.attB "Term" "__ne__" (.builtin "object.__ne__") K && true))))
/-- what the head tells -/
structure Tx (K : PySem.W.Frag) (mg : Str → Option Value) : Prop where
  says : Hd.Says fa ex defs K
  glo : ∀ x, He.Fa.glo x ∈ fa → mg x = some (.ref (He.ga K x))
  fre : ∀ x, He.Fa.free x ∈ fa → mg x = none
  cin : ∀ x i, He.Fa.int x i ∈ fa → ∃ t, mg x = some (.int i t)
  cst : ∀ x z, He.Fa.str x z ∈ fa → ∃ t, mg x = some (.str z t)
section
variable {K : PySem.W.Frag} {mg : Str → Option Value}
theorem g_PlanError (T : Tx K mg) : mg "PlanError" = some (.ref (He.ga K "PlanError")) := T.glo _ (List.mem_of_getElem? (i := 0) rfl)
theorem g_InputError (T : Tx K mg) : mg "InputError" = some (.ref (He.ga K "InputError")) := T.glo _ (List.mem_of_getElem? (i := 1) rfl)
theorem g_InvalidTerm (T : Tx K mg) : mg "InvalidTerm" = some (.ref (He.ga K "InvalidTerm")) := T.glo _ (List.mem_of_getElem? (i := 2) rfl)
theorem g_is_name (T : Tx K mg) : mg "is_name" = some (.ref (He.ga K "is_name")) := T.glo _ (List.mem_of_getElem? (i := 3) rfl)
theorem g_Term (T : Tx K mg) : mg "Term" = some (.ref (He.ga K "Term")) := T.glo _ (List.mem_of_getElem? (i := 4) rfl)
theorem g_row_term (T : Tx K mg) : mg "row_term" = some (.ref (He.ga K "row_term")) := T.glo _ (List.mem_of_getElem? (i := 5) rfl)
theorem g_column_term (T : Tx K mg) : mg "column_term" = some (.ref (He.ga K "column_term")) := T.glo _ (List.mem_of_getElem? (i := 6) rfl)
theorem g_place_term (T : Tx K mg) : mg "place_term" = some (.ref (He.ga K "place_term")) := T.glo _ (List.mem_of_getElem? (i := 7) rfl)
theorem g_zero_term (T : Tx K mg) : mg "zero_term" = some (.ref (He.ga K "zero_term")) := T.glo _ (List.mem_of_getElem? (i := 8) rfl)
theorem g_function_term (T : Tx K mg) : mg "function_term" = some (.ref (He.ga K "function_term")) := T.glo _ (List.mem_of_getElem? (i := 9) rfl)
theorem g_rule_term (T : Tx K mg) : mg "rule_term" = some (.ref (He.ga K "rule_term")) := T.glo _ (List.mem_of_getElem? (i := 10) rfl)
theorem g_text_of (T : Tx K mg) : mg "_text_of" = some (.ref (He.ga K "_text_of")) := T.glo _ (List.mem_of_getElem? (i := 11) rfl)
theorem g_find_subterms (T : Tx K mg) : mg "_find_subterms" = some (.ref (He.ga K "_find_subterms")) := T.glo _ (List.mem_of_getElem? (i := 12) rfl)
theorem g_read_term (T : Tx K mg) : mg "_read_term" = some (.ref (He.ga K "_read_term")) := T.glo _ (List.mem_of_getElem? (i := 13) rfl)
theorem g_read_row (T : Tx K mg) : mg "_read_row" = some (.ref (He.ga K "_read_row")) := T.glo _ (List.mem_of_getElem? (i := 14) rfl)
theorem g_read_value (T : Tx K mg) : mg "_read_value" = some (.ref (He.ga K "_read_value")) := T.glo _ (List.mem_of_getElem? (i := 15) rfl)
theorem g_read_call (T : Tx K mg) : mg "_read_call" = some (.ref (He.ga K "_read_call")) := T.glo _ (List.mem_of_getElem? (i := 16) rfl)
theorem g_pieces (T : Tx K mg) : mg "_pieces" = some (.ref (He.ga K "_pieces")) := T.glo _ (List.mem_of_getElem? (i := 17) rfl)
theorem g_law_pen (T : Tx K mg) : mg "_law_pen" = some (.ref (He.ga K "_law_pen")) := T.glo _ (List.mem_of_getElem? (i := 18) rfl)
theorem g_law_draw (T : Tx K mg) : mg "_law_draw" = some (.ref (He.ga K "_law_draw")) := T.glo _ (List.mem_of_getElem? (i := 19) rfl)
theorem g_law_words (T : Tx K mg) : mg "_law_words" = some (.ref (He.ga K "_law_words")) := T.glo _ (List.mem_of_getElem? (i := 20) rfl)
theorem g_law_names (T : Tx K mg) : mg "_law_names" = some (.ref (He.ga K "_law_names")) := T.glo _ (List.mem_of_getElem? (i := 21) rfl)
theorem g_law_text (T : Tx K mg) : mg "_law_text" = some (.ref (He.ga K "_law_text")) := T.glo _ (List.mem_of_getElem? (i := 22) rfl)
theorem g_law_lot (T : Tx K mg) : mg "_law_lot" = some (.ref (He.ga K "_law_lot")) := T.glo _ (List.mem_of_getElem? (i := 23) rfl)
theorem g_law_row (T : Tx K mg) : mg "_law_row" = some (.ref (He.ga K "_law_row")) := T.glo _ (List.mem_of_getElem? (i := 24) rfl)
theorem g_law_column (T : Tx K mg) : mg "_law_column" = some (.ref (He.ga K "_law_column")) := T.glo _ (List.mem_of_getElem? (i := 25) rfl)
theorem g_law_value (T : Tx K mg) : mg "_law_value" = some (.ref (He.ga K "_law_value")) := T.glo _ (List.mem_of_getElem? (i := 26) rfl)
theorem g_law_term (T : Tx K mg) : mg "_law_term" = some (.ref (He.ga K "_law_term")) := T.glo _ (List.mem_of_getElem? (i := 27) rfl)
theorem g_law_applied (T : Tx K mg) : mg "_law_applied" = some (.ref (He.ga K "_law_applied")) := T.glo _ (List.mem_of_getElem? (i := 28) rfl)
theorem g_law_built (T : Tx K mg) : mg "_law_built" = some (.ref (He.ga K "_law_built")) := T.glo _ (List.mem_of_getElem? (i := 29) rfl)
theorem g_law_is (T : Tx K mg) : mg "_law_is" = some (.ref (He.ga K "_law_is")) := T.glo _ (List.mem_of_getElem? (i := 30) rfl)
theorem g_law_depth (T : Tx K mg) : mg "_law_depth" = some (.ref (He.ga K "_law_depth")) := T.glo _ (List.mem_of_getElem? (i := 31) rfl)
theorem g_law_second (T : Tx K mg) : mg "_law_second" = some (.ref (He.ga K "_law_second")) := T.glo _ (List.mem_of_getElem? (i := 32) rfl)
theorem g_law_rows (T : Tx K mg) : mg "_law_rows" = some (.ref (He.ga K "_law_rows")) := T.glo _ (List.mem_of_getElem? (i := 33) rfl)
theorem g_law_right (T : Tx K mg) : mg "_law_right" = some (.ref (He.ga K "_law_right")) := T.glo _ (List.mem_of_getElem? (i := 34) rfl)
theorem g_law (T : Tx K mg) : mg "law" = some (.ref (He.ga K "law")) := T.glo _ (List.mem_of_getElem? (i := 35) rfl)
theorem z_abs (T : Tx K mg) : mg "abs" = none := T.fre _ (List.mem_of_getElem? (i := 36) rfl)
theorem z_all (T : Tx K mg) : mg "all" = none := T.fre _ (List.mem_of_getElem? (i := 37) rfl)
theorem z_bool (T : Tx K mg) : mg "bool" = none := T.fre _ (List.mem_of_getElem? (i := 38) rfl)
theorem z_int (T : Tx K mg) : mg "int" = none := T.fre _ (List.mem_of_getElem? (i := 39) rfl)
theorem z_isinstance (T : Tx K mg) : mg "isinstance" = none := T.fre _ (List.mem_of_getElem? (i := 40) rfl)
theorem z_len (T : Tx K mg) : mg "len" = none := T.fre _ (List.mem_of_getElem? (i := 41) rfl)
theorem z_list (T : Tx K mg) : mg "list" = none := T.fre _ (List.mem_of_getElem? (i := 42) rfl)
theorem z_max (T : Tx K mg) : mg "max" = none := T.fre _ (List.mem_of_getElem? (i := 43) rfl)
theorem z_range (T : Tx K mg) : mg "range" = none := T.fre _ (List.mem_of_getElem? (i := 44) rfl)
theorem z_set (T : Tx K mg) : mg "set" = none := T.fre _ (List.mem_of_getElem? (i := 45) rfl)
theorem z_sorted (T : Tx K mg) : mg "sorted" = none := T.fre _ (List.mem_of_getElem? (i := 46) rfl)
theorem z_str (T : Tx K mg) : mg "str" = none := T.fre _ (List.mem_of_getElem? (i := 47) rfl)
theorem z_tuple (T : Tx K mg) : mg "tuple" = none := T.fre _ (List.mem_of_getElem? (i := 48) rfl)
theorem z_zip (T : Tx K mg) : mg "zip" = none := T.fre _ (List.mem_of_getElem? (i := 49) rfl)
theorem cls_Term_ (T : Tx K mg) : Cls K (He.ga K "Term") := He.cls_ok (T.says.fact (List.mem_of_getElem? (i := 50) rfl))
theorem mkr_Term_ (T : Tx K mg) : Mk K (He.ga K "Term") (He.ma K (He.ga K "Term") "__init__") := He.mkr_ok (T.says.fact (List.mem_of_getElem? (i := 51) rfl))
theorem noat_Term_kind (T : Tx K mg) : NoAttr K (He.ga K "Term") "kind" := He.noat_ok (T.says.fact (List.mem_of_getElem? (i := 52) rfl))
theorem noat_Term_name (T : Tx K mg) : NoAttr K (He.ga K "Term") "name" := He.noat_ok (T.says.fact (List.mem_of_getElem? (i := 53) rfl))
theorem noat_Term_parts (T : Tx K mg) : NoAttr K (He.ga K "Term") "parts" := He.noat_ok (T.says.fact (List.mem_of_getElem? (i := 54) rfl))
theorem noat_Term_marked (T : Tx K mg) : NoAttr K (He.ga K "Term") "marked" := He.noat_ok (T.says.fact (List.mem_of_getElem? (i := 55) rfl))
theorem noat_Term_text (T : Tx K mg) : NoAttr K (He.ga K "Term") "text" := He.noat_ok (T.says.fact (List.mem_of_getElem? (i := 56) rfl))
theorem noat_Term_depth (T : Tx K mg) : NoAttr K (He.ga K "Term") "_depth" := He.noat_ok (T.says.fact (List.mem_of_getElem? (i := 57) rfl))
theorem meth_Term_init (T : Tx K mg) : Meth K (He.ga K "Term") "__init__" (He.ma K (He.ga K "Term") "__init__") := He.meth_ok (T.says.fact (List.mem_of_getElem? (i := 58) rfl))
theorem meth_Term_eq (T : Tx K mg) : Meth K (He.ga K "Term") "__eq__" (He.ma K (He.ga K "Term") "__eq__") := He.meth_ok (T.says.fact (List.mem_of_getElem? (i := 59) rfl))
theorem meth_Term_str (T : Tx K mg) : Meth K (He.ga K "Term") "__str__" (He.ma K (He.ga K "Term") "__str__") := He.meth_ok (T.says.fact (List.mem_of_getElem? (i := 60) rfl))
theorem meth_Term_second (T : Tx K mg) : Meth K (He.ga K "Term") "second" (He.ma K (He.ga K "Term") "second") := He.meth_ok (T.says.fact (List.mem_of_getElem? (i := 61) rfl))
theorem meth_Term_row_names (T : Tx K mg) : Meth K (He.ga K "Term") "row_names" (He.ma K (He.ga K "Term") "row_names") := He.meth_ok (T.says.fact (List.mem_of_getElem? (i := 62) rfl))
theorem meth_Term_subterms (T : Tx K mg) : Meth K (He.ga K "Term") "subterms" (He.ma K (He.ga K "Term") "subterms") := He.meth_ok (T.says.fact (List.mem_of_getElem? (i := 63) rfl))
theorem exr_0 (T : Tx K mg) : (Hd.insB "Term" K && (Hd.kitsB "Term" ["NoneType", "bool", "int", "str", "list", "tuple", "dict"] K && (Hd.propB "Term" "depth" K && (Hd.attB "Term" "__ne__" (.builtin "object.__ne__") K && true)))) = true := T.says.more
theorem ex_0 (T : Tx K mg) : Hd.insB "Term" K = true := (Bool.and_eq_true_iff.mp (exr_0 T)).1
theorem exr_1 (T : Tx K mg) : (Hd.kitsB "Term" ["NoneType", "bool", "int", "str", "list", "tuple", "dict"] K && (Hd.propB "Term" "depth" K && (Hd.attB "Term" "__ne__" (.builtin "object.__ne__") K && true))) = true := (Bool.and_eq_true_iff.mp (exr_0 T)).2
theorem ex_1 (T : Tx K mg) : Hd.kitsB "Term" ["NoneType", "bool", "int", "str", "list", "tuple", "dict"] K = true := (Bool.and_eq_true_iff.mp (exr_1 T)).1
theorem exr_2 (T : Tx K mg) : (Hd.propB "Term" "depth" K && (Hd.attB "Term" "__ne__" (.builtin "object.__ne__") K && true)) = true := (Bool.and_eq_true_iff.mp (exr_1 T)).2
theorem ex_2 (T : Tx K mg) : Hd.propB "Term" "depth" K = true := (Bool.and_eq_true_iff.mp (exr_2 T)).1
theorem exr_3 (T : Tx K mg) : (Hd.attB "Term" "__ne__" (.builtin "object.__ne__") K && true) = true := (Bool.and_eq_true_iff.mp (exr_2 T)).2
theorem ex_3 (T : Tx K mg) : Hd.attB "Term" "__ne__" (.builtin "object.__ne__") K = true := (Bool.and_eq_true_iff.mp (exr_3 T)).1
theorem f_Term_init (T : Tx K mg) : ∃ fd, FunD K d_Term_init.2.name d_Term_init.2.qual d_Term_init.2.params d_Term_init.2.body d_Term_init.2.scope (d_Term_init.2.dvs K) (d_Term_init.2.kws K) (d_Term_init.1 K) fd := T.says.fun_ 0 rfl
theorem f_Term_depth (T : Tx K mg) : ∃ fd, FunD K d_Term_depth.2.name d_Term_depth.2.qual d_Term_depth.2.params d_Term_depth.2.body d_Term_depth.2.scope (d_Term_depth.2.dvs K) (d_Term_depth.2.kws K) (d_Term_depth.1 K) fd := T.says.fun_ 1 rfl
theorem f_Term_second (T : Tx K mg) : ∃ fd, FunD K d_Term_second.2.name d_Term_second.2.qual d_Term_second.2.params d_Term_second.2.body d_Term_second.2.scope (d_Term_second.2.dvs K) (d_Term_second.2.kws K) (d_Term_second.1 K) fd := T.says.fun_ 2 rfl
theorem f_Term_row_names (T : Tx K mg) : ∃ fd, FunD K d_Term_row_names.2.name d_Term_row_names.2.qual d_Term_row_names.2.params d_Term_row_names.2.body d_Term_row_names.2.scope (d_Term_row_names.2.dvs K) (d_Term_row_names.2.kws K) (d_Term_row_names.1 K) fd := T.says.fun_ 3 rfl
theorem f_Term_subterms (T : Tx K mg) : ∃ fd, FunD K d_Term_subterms.2.name d_Term_subterms.2.qual d_Term_subterms.2.params d_Term_subterms.2.body d_Term_subterms.2.scope (d_Term_subterms.2.dvs K) (d_Term_subterms.2.kws K) (d_Term_subterms.1 K) fd := T.says.fun_ 4 rfl
theorem f_Term_eq (T : Tx K mg) : ∃ fd, FunD K d_Term_eq.2.name d_Term_eq.2.qual d_Term_eq.2.params d_Term_eq.2.body d_Term_eq.2.scope (d_Term_eq.2.dvs K) (d_Term_eq.2.kws K) (d_Term_eq.1 K) fd := T.says.fun_ 5 rfl
theorem f_Term_str (T : Tx K mg) : ∃ fd, FunD K d_Term_str.2.name d_Term_str.2.qual d_Term_str.2.params d_Term_str.2.body d_Term_str.2.scope (d_Term_str.2.dvs K) (d_Term_str.2.kws K) (d_Term_str.1 K) fd := T.says.fun_ 6 rfl
theorem f_row_term (T : Tx K mg) : ∃ fd, FunD K d_row_term.2.name d_row_term.2.qual d_row_term.2.params d_row_term.2.body d_row_term.2.scope (d_row_term.2.dvs K) (d_row_term.2.kws K) (d_row_term.1 K) fd := T.says.fun_ 7 rfl
theorem f_column_term (T : Tx K mg) : ∃ fd, FunD K d_column_term.2.name d_column_term.2.qual d_column_term.2.params d_column_term.2.body d_column_term.2.scope (d_column_term.2.dvs K) (d_column_term.2.kws K) (d_column_term.1 K) fd := T.says.fun_ 8 rfl
theorem f_place_term (T : Tx K mg) : ∃ fd, FunD K d_place_term.2.name d_place_term.2.qual d_place_term.2.params d_place_term.2.body d_place_term.2.scope (d_place_term.2.dvs K) (d_place_term.2.kws K) (d_place_term.1 K) fd := T.says.fun_ 9 rfl
theorem f_zero_term (T : Tx K mg) : ∃ fd, FunD K d_zero_term.2.name d_zero_term.2.qual d_zero_term.2.params d_zero_term.2.body d_zero_term.2.scope (d_zero_term.2.dvs K) (d_zero_term.2.kws K) (d_zero_term.1 K) fd := T.says.fun_ 10 rfl
theorem f_function_term (T : Tx K mg) : ∃ fd, FunD K d_function_term.2.name d_function_term.2.qual d_function_term.2.params d_function_term.2.body d_function_term.2.scope (d_function_term.2.dvs K) (d_function_term.2.kws K) (d_function_term.1 K) fd := T.says.fun_ 11 rfl
theorem f_rule_term (T : Tx K mg) : ∃ fd, FunD K d_rule_term.2.name d_rule_term.2.qual d_rule_term.2.params d_rule_term.2.body d_rule_term.2.scope (d_rule_term.2.dvs K) (d_rule_term.2.kws K) (d_rule_term.1 K) fd := T.says.fun_ 12 rfl
theorem f_text_of (T : Tx K mg) : ∃ fd, FunD K d_text_of.2.name d_text_of.2.qual d_text_of.2.params d_text_of.2.body d_text_of.2.scope (d_text_of.2.dvs K) (d_text_of.2.kws K) (d_text_of.1 K) fd := T.says.fun_ 13 rfl
theorem f_find_subterms (T : Tx K mg) : ∃ fd, FunD K d_find_subterms.2.name d_find_subterms.2.qual d_find_subterms.2.params d_find_subterms.2.body d_find_subterms.2.scope (d_find_subterms.2.dvs K) (d_find_subterms.2.kws K) (d_find_subterms.1 K) fd := T.says.fun_ 14 rfl
theorem f_Lpen (T : Tx K mg) : ∃ fd, FunD K d_Lpen.2.name d_Lpen.2.qual d_Lpen.2.params d_Lpen.2.body d_Lpen.2.scope (d_Lpen.2.dvs K) (d_Lpen.2.kws K) (d_Lpen.1 K) fd := T.says.fun_ 15 rfl
theorem f_Ldraw (T : Tx K mg) : ∃ fd, FunD K d_Ldraw.2.name d_Ldraw.2.qual d_Ldraw.2.params d_Ldraw.2.body d_Ldraw.2.scope (d_Ldraw.2.dvs K) (d_Ldraw.2.kws K) (d_Ldraw.1 K) fd := T.says.fun_ 16 rfl
theorem f_Lwords (T : Tx K mg) : ∃ fd, FunD K d_Lwords.2.name d_Lwords.2.qual d_Lwords.2.params d_Lwords.2.body d_Lwords.2.scope (d_Lwords.2.dvs K) (d_Lwords.2.kws K) (d_Lwords.1 K) fd := T.says.fun_ 17 rfl
theorem f_Lnames (T : Tx K mg) : ∃ fd, FunD K d_Lnames.2.name d_Lnames.2.qual d_Lnames.2.params d_Lnames.2.body d_Lnames.2.scope (d_Lnames.2.dvs K) (d_Lnames.2.kws K) (d_Lnames.1 K) fd := T.says.fun_ 18 rfl
theorem f_Ltext (T : Tx K mg) : ∃ fd, FunD K d_Ltext.2.name d_Ltext.2.qual d_Ltext.2.params d_Ltext.2.body d_Ltext.2.scope (d_Ltext.2.dvs K) (d_Ltext.2.kws K) (d_Ltext.1 K) fd := T.says.fun_ 19 rfl
theorem f_Llot (T : Tx K mg) : ∃ fd, FunD K d_Llot.2.name d_Llot.2.qual d_Llot.2.params d_Llot.2.body d_Llot.2.scope (d_Llot.2.dvs K) (d_Llot.2.kws K) (d_Llot.1 K) fd := T.says.fun_ 20 rfl
theorem f_Lrow (T : Tx K mg) : ∃ fd, FunD K d_Lrow.2.name d_Lrow.2.qual d_Lrow.2.params d_Lrow.2.body d_Lrow.2.scope (d_Lrow.2.dvs K) (d_Lrow.2.kws K) (d_Lrow.1 K) fd := T.says.fun_ 21 rfl
theorem f_Lcolumn (T : Tx K mg) : ∃ fd, FunD K d_Lcolumn.2.name d_Lcolumn.2.qual d_Lcolumn.2.params d_Lcolumn.2.body d_Lcolumn.2.scope (d_Lcolumn.2.dvs K) (d_Lcolumn.2.kws K) (d_Lcolumn.1 K) fd := T.says.fun_ 22 rfl
theorem f_Lvalue (T : Tx K mg) : ∃ fd, FunD K d_Lvalue.2.name d_Lvalue.2.qual d_Lvalue.2.params d_Lvalue.2.body d_Lvalue.2.scope (d_Lvalue.2.dvs K) (d_Lvalue.2.kws K) (d_Lvalue.1 K) fd := T.says.fun_ 23 rfl
theorem f_Lterm (T : Tx K mg) : ∃ fd, FunD K d_Lterm.2.name d_Lterm.2.qual d_Lterm.2.params d_Lterm.2.body d_Lterm.2.scope (d_Lterm.2.dvs K) (d_Lterm.2.kws K) (d_Lterm.1 K) fd := T.says.fun_ 24 rfl
theorem f_Lapplied (T : Tx K mg) : ∃ fd, FunD K d_Lapplied.2.name d_Lapplied.2.qual d_Lapplied.2.params d_Lapplied.2.body d_Lapplied.2.scope (d_Lapplied.2.dvs K) (d_Lapplied.2.kws K) (d_Lapplied.1 K) fd := T.says.fun_ 25 rfl
theorem f_Lbuilt (T : Tx K mg) : ∃ fd, FunD K d_Lbuilt.2.name d_Lbuilt.2.qual d_Lbuilt.2.params d_Lbuilt.2.body d_Lbuilt.2.scope (d_Lbuilt.2.dvs K) (d_Lbuilt.2.kws K) (d_Lbuilt.1 K) fd := T.says.fun_ 26 rfl
theorem f_Lis (T : Tx K mg) : ∃ fd, FunD K d_Lis.2.name d_Lis.2.qual d_Lis.2.params d_Lis.2.body d_Lis.2.scope (d_Lis.2.dvs K) (d_Lis.2.kws K) (d_Lis.1 K) fd := T.says.fun_ 27 rfl
theorem f_Ldepth (T : Tx K mg) : ∃ fd, FunD K d_Ldepth.2.name d_Ldepth.2.qual d_Ldepth.2.params d_Ldepth.2.body d_Ldepth.2.scope (d_Ldepth.2.dvs K) (d_Ldepth.2.kws K) (d_Ldepth.1 K) fd := T.says.fun_ 28 rfl
theorem f_Lsecond (T : Tx K mg) : ∃ fd, FunD K d_Lsecond.2.name d_Lsecond.2.qual d_Lsecond.2.params d_Lsecond.2.body d_Lsecond.2.scope (d_Lsecond.2.dvs K) (d_Lsecond.2.kws K) (d_Lsecond.1 K) fd := T.says.fun_ 29 rfl
theorem f_Lrows (T : Tx K mg) : ∃ fd, FunD K d_Lrows.2.name d_Lrows.2.qual d_Lrows.2.params d_Lrows.2.body d_Lrows.2.scope (d_Lrows.2.dvs K) (d_Lrows.2.kws K) (d_Lrows.1 K) fd := T.says.fun_ 30 rfl
theorem f_Lright (T : Tx K mg) : ∃ fd, FunD K d_Lright.2.name d_Lright.2.qual d_Lright.2.params d_Lright.2.body d_Lright.2.scope (d_Lright.2.dvs K) (d_Lright.2.kws K) (d_Lright.1 K) fd := T.says.fun_ 31 rfl
theorem f_law (T : Tx K mg) : ∃ fd, FunD K d_law.2.name d_law.2.qual d_law.2.params d_law.2.body d_law.2.scope (d_law.2.dvs K) (d_law.2.kws K) (d_law.1 K) fd := T.says.fun_ 32 rfl
end
end Pf
namespace Bs
open PySem PySem.Spec PyProof.Rows L2
variable {X : Cx}
/-! ### rules of our own -/
/-- f() by its name -/
theorem pe_c0 {k j : Nat} {x : Str} {sp : Sp} {dvs : List V} {p pos : Pos} (c : C8.Cal X.prog X.w X.K X.mg X.base k x sp dvs) (hr : Room j X.A) (hk : k ≤ j) (hg : Gl X x) (hdb : (x == ("__debug__" : Str)) = false := by decide) :
    PE X (.Call (.Name x p) [] [] pos) (fun _ H Q => sp dvs H Q C8.E0) := by
  obtain ⟨f, fd, ps, ds, F, hm, kp, b, d⟩ := c.ex
  exact pe_call0 F (hr.mono hk) hg hm kp b d C8.pass0 hdb
/-- a short text, some times -/
def rRepS : R2 := fun x y H Q => ∃ z k, x = .str z ∧ y = .int k ∧ 0 ≤ k ∧ k ≤ 1000 ∧ z.length ≤ 1000 ∧ Q (.str ⟨(List.replicate k.toNat z.cps.toList).flatten.toArray⟩) H
theorem rep_flat (n : Nat) (c : Array Nat) : (List.replicate n c).foldl (fun x y => x ++ y) #[] = (List.replicate n c.toList).flatten.toArray := by
  have h : ∀ (n : Nat) (a : Array Nat), (List.replicate n c).foldl (fun x y => x ++ y) a = a ++ (List.replicate n c.toList).flatten.toArray := by
    intro n
    induction n with
    | zero => intro a; simp
    | succ n ih =>
      intro a
      rw [List.replicate_succ, List.foldl_cons, ih, List.replicate_succ, List.flatten_cons, Array.append_assoc]
      refine congrArg (a ++ ·) ?_
      apply Array.ext'
      simp
  rw [h]
  simp
theorem op_rep_str : OpR X (binaryOp .Mult) rRepS := by
  intro pins s σ H x y v u Q I rx ry h
  obtain ⟨z, k, rfl, rfl, h0, h1, hz, q⟩ := h
  obtain ⟨t, rfl⟩ := rx
  obtain ⟨t', rfl⟩ := ry
  have fin : ∀ (c : Str), c = ⟨(List.replicate k.toNat z.cps.toList).flatten.toArray⟩ → ∀ (t : Tok) (tk : Nat), EP X pins σ Q (.str c t) { s with toks := tk } := fun c e t tk => ⟨.str c, H, I.tok _, ⟨_, rfl⟩, by rw [e]; exact q⟩
  refine P.mul_str (by simp; omega) (fun h2 _ => ?_) (fun h2 _ => ?_) ?_
  · have h3 : 0 < k := by omega
    have h4 : (9223372036854775807 : Int) / 1000 ≤ 9223372036854775807 / k := by
      apply Int.le_ediv_of_mul_le h3
      omega
    have : (2 : Int) ^ 63 - 1 = 9223372036854775807 := by decide
    rw [this]
    omega
  · have h3 : z.length * k.toNat ≤ 1000 * 1000 := Nat.mul_le_mul hz (by omega)
    show decide (_ > sizeLine) = false
    exact decide_eq_false (by have : sizeLine = 16777216 := rfl; omega)
  · split
    · rename_i h2
      have e : k = 0 := by omega
      subst e
      refine ⟨by decide, fin _ ?_ _ _⟩
      simp [Str.empty]
    · split
      · rename_i h2 h3
        refine fin z ?_ t s.toks
        simp only [Bool.or_eq_true, beq_iff_eq] at h3
        rcases h3 with h3 | h3
        · subst h3
          apply TL.ext_tl
          simp [TL.tl]
        · have e : z.cps = #[] := Array.size_eq_zero_iff.mp h3
          apply TL.ext_tl
          simp [TL.tl, e]
      · rw [rep_flat]
        refine ⟨?_, fin _ rfl _ _⟩
        have h3 : k.toNat * z.length ≤ 1000 * 1000 := Nat.mul_le_mul (by omega) hz
        have h4 : ((List.replicate k.toNat z.cps.toList).flatten.toArray).size = k.toNat * z.length := by simp [Str.length]
        show _ ≤ sizeLine
        have : sizeLine = 16777216 := rfl
        show ((List.replicate k.toNat z.cps.toList).flatten.toArray).size ≤ sizeLine
        omega
end Bs
namespace Bs
open PySem PySem.Spec PyProof.Rows L2
variable {X : Cx} {n k : Nat} {C f : Addr} {fd : FuncData} {ps : List Str}
/-! ### == and != by the class's own __eq__, both answers -/
/-- what the own == promises: D a y r says that the answer is r; the heap stays -/
def spCmp (D : Addr → V → Bool → Hp → Prop) : Sp := fun vs H Q _ => ∃ (a : Addr) (y : V) (r : Bool), vs = [.ref a, y] ∧ D a y r H ∧ Q (.bl r) H
structure OwnE (X : Cx) (n : Nat) (C : Addr) (D : Addr → V → Bool → Hp → Prop) : Prop where
  ex : ∃ (f : Addr) (fd : FuncData) (ps : List Str), FnOk X.prog X.w X.K X.mg X.base C8.CX0 n f fd ps (spCmp D) ∧ PySem.W.findIn X.K (.ref C) "__eq__" = some (some (.ref f)) ∧ PySem.W.isFn X.K (.ref f) = true ∧ Binds X.K fd ps []
  obj : PySem.W.mroIn X.K C (.type "object") = some true
  ne : PySem.W.findIn X.K (.ref C) "__ne__" = some (some (.builtin "object.__ne__"))
theorem own_call {A : Around} {pins : List (Addr × Obj)} {s : Shared} {σ : L2.St} {H : Hp} {a : Addr} {y : V} {v : Value} {r : Bool} {D : Addr → V → Bool → Hp → Prop} {E : Value → Shared → Prop} (F : FnOk X.prog X.w X.K X.mg X.base C8.CX0 n f fd ps (spCmp D)) (hb : Binds X.K fd ps [])
    (hr : Room n A) (hf : A.frames = X.A.frames) (I : Inv X pins σ H s) (ry : RelV y v) (d : D a y r H) : wpAny (model X.prog X.w) A (call (.ref f) [.ref a, v]) (fun u s' => u = .bool r ∧ Inv X pins σ H s') E s := by
  have hsp : spCmp D [.ref a, y] H (fun v H' => v = .bl r ∧ H' = H) C8.E0 := ⟨a, y, r, rfl, d, rfl, rfl⟩
  have e0 : Env0 X.prog X.w X.K X.mg X.base A X.stack s H := by
    have e := I.env0
    exact ⟨by rw [hf]; exact e.frames, e.mod, e.bs, e.bsz, e.funs, e.frf, e.hok, e.bare⟩
  have hl := F.len _ _ _ _ hsp
  have r2 : Vals [V.ref a, y] [Value.ref a, v] := .cons rfl (.cons ry .nil)
  refine wpAny_call (codeAny_mono (F.run A X.stack s H ⟨[.ref a, v], []⟩ [.ref a, v] [.ref a, y] _ C8.E0 hr e0 (by
    have := hb s [.ref a, v] I.kIn (by simpa using hl)
    simpa using this) r2 hsp) fun r s' hq => ?_)
  cases r with
  | error e => exact hq.elim
  | ok fl =>
    cases fl with
    | ret w =>
      obtain ⟨z, H', I', rz, ez, ex⟩ := I.after hq
      subst ez ex
      cases rz
      exact ⟨rfl, I'⟩
    | next => exact False.elim hq
    | brk => exact False.elim hq
    | cont => exact False.elim hq
def rEqO (K : PySem.W.Frag) (C : Addr) (D : Addr → V → Bool → Hp → Prop) (g : Bool → Bool) : R2 := fun x y H Q => ∃ (a dx : Addr) (fs : List (Str × V)) (t : Value) (r : Bool), x = .ref a ∧ H a = some (.ins C dx fs) ∧ TyX K H y t ∧ PySem.W.notFirst K C t = true ∧ D a y r H ∧ Q (.bl (g r)) H
theorem op_eqO {D : Addr → V → Bool → Hp → Prop} (O : OwnE X n C D) (hr : Room n X.A) : OpR X (compareOp .Eq) (rEqO X.K C D id) := by
  intro pins s σ H x y v u Q I rx ry h
  obtain ⟨a, dx, fs, t, r, rfl, ha, ty, nf, d, q⟩ := h
  obtain ⟨f, fd, ps, F, hs, hf, hb⟩ := O.ex
  cases rx
  obtain ⟨mA, J, _⟩ := ins_get I.hok ha
  obtain ⟨od, J, _⟩ := J.look
  obtain ⟨m, hF⟩ := I.fr
  obtain ⟨P, kx, hP, _⟩ := kit_of I ry ty
  refine PySem.W.cmp_ofEq (PySem.W.cmp_K (op := .Eq) (tb := t) hr.units0 hF I.ok.mod.kin J (kx.ty _ _ I.kIn hP) nf hs hf ?_)
  refine wpAny_mono (own_call F hb hr rfl I ry d) (fun u s' ⟨eu, I'⟩ => ?_) fun _ _ x => x
  subst eu
  exact ⟨.bl r, H, I', rfl, q⟩
theorem op_neO {D : Addr → V → Bool → Hp → Prop} (O : OwnE X n C D) (hr : Room (n + 1) X.A) : OpR X (compareOp .NotEq) (rEqO X.K C D not) := by
  intro pins s σ H x y v u Q I rx ry h
  obtain ⟨a, dx, fs, t, r, rfl, ha, ty, nf, d, q⟩ := h
  obtain ⟨f, fd, ps, F, hs, hf, hb⟩ := O.ex
  cases rx
  obtain ⟨mA, J, _⟩ := ins_get I.hok ha
  obtain ⟨od, J, _⟩ := J.look
  obtain ⟨P, kx, hP, _⟩ := kit_of I ry ty
  have K0 : X.K.In s.heap := I.kIn
  have tl : PySem.W.Looks (model X.prog X.w) s.heap (typeOf u) t := kx.ty _ _ K0 hP
  have ifb : ∀ (Q' : Option Value → Shared → Prop), (∀ s', Inv X pins σ H s' → Q' (some (.bool r)) s') → wpAny (model X.prog X.w) X.A.in1 (callSpecialIfBound? (.ref a) "__eq__" [u]) Q' X.xe s := fun Q' hq =>
    PySem.W.ifBound_K K0 J hs hf (wpAny_mono (own_call F hb hr.in1 rfl I ry d) (fun v s' ⟨e, I'⟩ => by subst e; exact hq s' I') fun _ _ x => x)
  have hu := hr.in1.units0
  have body : ∀ (Q' : Fin → Shared → Prop), (∀ s', Inv X pins σ H s' → Q' (.done (.ret (.bool (!r)))) s') → wpAny (model X.prog X.w) X.A.in1 (Builtin.«object.__ne__» ⟨[.ref a, u], []⟩) Q' X.xe s := fun Q' hq => by
    unfold Builtin.«object.__ne__»
    repeat (first | with_reducible refine wpAny_cRoomFor hu ?_ | with_reducible refine wpAny_bind (ifb _ fun s' I' => ?_) | wp_step)
    exact hq s' I'
  have ifn : ∀ (Q' : Option Value → Shared → Prop), (∀ s', Inv X pins σ H s' → Q' (some (.bool (!r))) s') → wpAny (model X.prog X.w) X.A (callSpecialIfBound? (.ref a) "__ne__" [u]) Q' X.xe s := fun Q' hq => by
    have cl : ∀ (Q2 : Value → Shared → Prop), (∀ s', Inv X pins σ H s' → Q2 (.bool (!r)) s') → wpAny (model X.prog X.w) X.A (call (.builtin "object.__ne__") [.ref a, u]) Q2 X.xe s := fun Q2 h2 =>
      wpAny_call (codeAny_call_builtin PySem.F.cmp_object.ne.plain PySem.F.cmpEntry_ne (PySem.W.check_slot PySem.F.cmpKind_ne PySem.F.cmpSplit_ne (J.type.andThen (PySem.W.looks_mroIn K0 O.obj)) (PySem.F.cmpArgs_ne _ _) (body _ fun s' I' => h2 s' I')))
    have fin : wpAny (model X.prog X.w) X.A (call (.builtin "object.__ne__") ([.ref a] ++ [u]) >>= fun v => pure (some v)) Q' X.xe s := wpAny_bind (cl _ fun s' I' => wpAny_pure (hq s' I'))
    simp only [callSpecialIfBound?, bindSpecialIfBound?]
    refine wpAny_holding (wpAny_bind (wpAny_bind (wpAny_bind (J.type.here ((PySem.W.looks_findIn K0 O.ne).here ?_)))))
    refine wpAny_bind (wpAny_askSetting (wpAny_ite ?_))
    split
    · exact wpAny_bind (wpAny_of_eq (PySem.F.cmp_object.ne.bind _) (wpAny_pure (by exact fin)))
    · exact wpAny_tryCatch (wpAny_bind (wpAny_of_eq (PySem.F.cmp_object.ne.bind _) (wpAny_pure (by exact fin))))
  have one : wpAny (model X.prog X.w) X.A (tryCompare (.ref a) "__ne__" u) (fun z s' => z = some (.bool (!r)) ∧ Inv X pins σ H s') X.xe s := by
    unfold tryCompare
    exact wpAny_bind (ifn _ fun s' I' => wpAny_pure ⟨rfl, I'⟩)
  refine PySem.W.cmp_ofNotEq ?_
  unfold richCompare
  simp only [oneThing_ref]
  refine wpAny_holding (wpAny_bind (wpAny_cRoomFor hr.units0 ?_))
  refine wpAny_bind (J.type.here (wpAny_bind (tl.here ?_)))
  split
  · rename_i z
    have e : PySem.W.subIn X.K t (.ref C) = some false := by
      rcases Bool.or_eq_true_iff.mp nf with e | e
      · rw [beq_iff_eq.mp e] at z; simp at z
      · exact beq_iff_eq.mp e
    refine wpAny_bind ((PySem.W.looks_subIn K0 e).here ?_)
    simp only [Bool.false_eq_true, if_false]
    refine wpAny_bind (wpAny_mono one (fun z s' hz => ?_) fun _ _ e => e)
    obtain ⟨rfl, I'⟩ := hz
    exact wpAny_pure ⟨.bl (!r), H, I', rfl, q⟩
  · refine wpAny_bind (wpAny_pure ?_)
    simp only [Bool.false_eq_true, if_false]
    refine wpAny_bind (wpAny_mono one (fun z s' hz => ?_) fun _ _ e => e)
    obtain ⟨rfl, I'⟩ := hz
    exact wpAny_pure ⟨.bl (!r), H, I', rfl, q⟩
end Bs
namespace Bs
open PySem PySem.Spec PyProof.Rows L2
variable {X : Cx} {n k : Nat} {C f : Addr} {fd : FuncData} {ps : List Str}
/-! ### max(ints, default=d) -/
def rMaxD (K : PySem.W.Frag) : List V → List V → Hp → VK → Prop := fun vs zs H Q => ∃ (a : Addr) (ns : List Int) (d : Int), vs = [.ref a] ∧ zs = [.int d] ∧ SqL K H a (ns.map V.int) ∧
  ∀ m : Int, (ns = [] → m = d) → (ns ≠ [] → m ∈ ns ∧ ∀ k ∈ ns, k ≤ m) → Q (.int m) H
def big (y : Int) (ys : List Int) : Int := ys.foldl (fun a z => if decide (a < z) = true then z else a) y
theorem big_ge : ∀ (ys : List Int) (y : Int), y ≤ big y ys ∧ (∀ k ∈ ys, k ≤ big y ys) ∧ (big y ys = y ∨ big y ys ∈ ys)
  | [], y => ⟨Int.le_refl y, (fun k h => by cases h), .inl rfl⟩
  | z :: r, y => by
    have e : big y (z :: r) = big (if decide (y < z) = true then z else y) r := rfl
    obtain ⟨h1, h2, h3⟩ := big_ge r (if decide (y < z) = true then z else y)
    rw [e]
    by_cases c : y < z
    · rw [if_pos (decide_eq_true c)] at h1 h2 h3 ⊢
      refine ⟨by omega, fun k hk => ?_, .inr ?_⟩
      · rcases List.mem_cons.mp hk with q | q
        · rw [q]; exact h1
        · exact h2 k q
      · rcases h3 with q | q
        · rw [q]; exact List.mem_cons_self
        · exact List.mem_cons_of_mem _ q
    · rw [if_neg (by simpa using c)] at h1 h2 h3 ⊢
      refine ⟨h1, fun k hk => ?_, ?_⟩
      · rcases List.mem_cons.mp hk with q | q
        · omega
        · exact h2 k q
      · rcases h3 with q | q
        · exact .inl q
        · exact .inr (List.mem_cons_of_mem _ q)
theorem cr_maxD (hc : X.calm = true) (hu : X.A.units + 1 < cLine) : CallRK X (.builtin "max") ["default"] (rMaxD X.K) := by
  intro pins s σ H xs zs us ws Q I r rz h
  obtain ⟨a, ns, d, rfl, rfl, hs, q⟩ := h
  obtain ⟨its, rv, hl, _⟩ := I.list hs
  obtain ⟨w', ew, rw'⟩ := vals1 rz
  subst ew
  obtain ⟨t, rfl⟩ := rw'
  rw [Vals.ref1 r]
  show wpAny _ _ (call (.builtin "max") [.ref a] [(Str.ofString "default", .int d t)]) _ _ _
  refine PySem.W.max_list_datum_default (α := Int) (xs := ns) (I.ok.hd hc) hl.isList (PySem.W.HoldAll.of_ints (by simpa using rv.ints)) (by show X.A.units + 1 + 0 < cLine; exact hu) (fun e h' tk hk => ?_) fun y ys i v h' tk e hi hv hk => ?_
  · exact ⟨.int d, H, I.kept hk, ⟨_, rfl⟩, q d (fun _ => rfl) fun z => absurd e z⟩
  · obtain ⟨t', rfl⟩ := PySem.W.int_of_holds hv
    have eb : PySem.W.maxOf y ys = big y ys := rfl
    rw [eb]
    obtain ⟨h1, h2, h3⟩ := big_ge ys y
    refine ⟨.int (big y ys), H, I.kept hk, ⟨_, rfl⟩, q _ (fun z => by rw [e] at z; cases z) fun _ => ?_⟩
    rw [e]
    refine ⟨?_, fun k hk => ?_⟩
    · rcases h3 with z | z
      · rw [z]; exact List.mem_cons_self
      · exact List.mem_cons_of_mem _ z
    · rcases List.mem_cons.mp hk with z | z
      · rw [z]; exact h1
      · exact h2 k z
/-! ### str(o) by the class's own __str__ -/
def spStr (D : Addr → Str → Hp → Prop) : Sp := fun vs H Q _ => ∃ (a : Addr) (x : Str), vs = [.ref a] ∧ D a x H ∧ Q (.str x) H
structure OwnS (X : Cx) (n : Nat) (C : Addr) (D : Addr → Str → Hp → Prop) : Prop where
  ex : ∃ (f : Addr) (fd : FuncData) (ps : List Str), FnOk X.prog X.w X.K X.mg X.base C8.CX0 n f fd ps (spStr D) ∧ PySem.W.findIn X.K (.ref C) "__str__" = some (some (.ref f)) ∧ PySem.W.isFn X.K (.ref f) = true ∧ Binds X.K fd ps []
theorem call_strO {D : Addr → Str → Hp → Prop} (O : OwnS X n C D) (hr : Room (n + 2) X.A) : CallR X (.type "str") (fun xs H Q => ∃ (a dx : Addr) (fs : List (Str × V)) (x : Str), xs = [.ref a] ∧ H a = some (.ins C dx fs) ∧ D a x H ∧ Q (.str x) H) := by
  intro pins s σ H xs us Q I r h
  obtain ⟨a, dx, fs, x, rfl, ha, d, q⟩ := h
  obtain ⟨f, fd, ps, F, hs, hf, hb⟩ := O.ex
  obtain ⟨u, rfl, ru⟩ := vals1 r
  cases ru
  obtain ⟨mA, J, _⟩ := ins_get I.hok ha
  obtain ⟨od, J, _⟩ := J.look
  have hsp : spStr D [.ref a] H (fun v H' => v = .str x ∧ H' = H) C8.E0 := ⟨a, x, rfl, d, rfl, rfl⟩
  have e0 : Env0 X.prog X.w X.K X.mg X.base X.A.in1.in1 X.stack s H := by
    have e := I.env0
    exact ⟨e.frames, e.mod, e.bs, e.bsz, e.funs, e.frf, e.hok, e.bare⟩
  have hl := F.len _ _ _ _ hsp
  have r2 : Vals [V.ref a] [Value.ref a] := .cons rfl .nil
  have hr2 : Room n X.A.in1.in1 := hr.in1.in1
  refine PySem.W.kso_call hr2.units0 I.kIn J hs hf (wpAny_call (codeAny_mono (F.run X.A.in1.in1 X.stack s H ⟨[.ref a], []⟩ [.ref a] [.ref a] _ C8.E0 hr2 e0 (by
    have := hb s [.ref a] I.kIn (by simpa using hl)
    simpa using this) r2 hsp) fun r s' hq => ?_))
  cases r with
  | error e => exact hq.elim
  | ok fl =>
    cases fl with
    | ret w =>
      obtain ⟨z, H', I', rz, ez, ex⟩ := I.after hq
      subst ez ex
      obtain ⟨t, rfl⟩ := rz
      exact ⟨.str x, _, I', ⟨t, rfl⟩, q⟩
    | next => exact False.elim hq
    | brk => exact False.elim hq
    | cont => exact False.elim hq
end Bs
namespace Bs
open PySem PySem.Spec PyProof.Rows L2
variable {X : Cx} {K : PySem.W.Frag}
/-! ### rules whose reading names the written part itself -/
theorem pe_fldK {e : Expr} {f : Str} {pos : Pos} {ta : TE} (hK : X.K = K) (he : PE X e ta) (hb : attributeBase e f X.env (eval e X.env) = eval e X.env) : PE X (.Attribute e f pos) (tFld K ta f) := by
  subst hK
  exact pe_fld he hb
theorem ix_listK (hK : X.K = K) : IxR X (rIxL K) := by subst hK; exact ix_list
theorem ix_tupK (hK : X.K = K) : IxR X (rIxT K) := by subst hK; exact ix_tup
def rLenSeq (K : PySem.W.Frag) : List V → Hp → VK → Prop := fun xs H Q => ∃ (p : Addr) (ys : List V), xs = [.ref p] ∧ (SqL K H p ys ∨ SqT K H p ys) ∧ Q (.int (ys.length : Nat)) H
theorem call_len_seqK (hK : X.K = K) : CallR X (.builtin "len") (rLenSeq K) := by subst hK; exact call_len_seq
theorem call_isiK' (hK : X.K = K) : CallR X (.builtin "isinstance") (rIsi K) := by subst hK; exact call_isi
theorem pi_listK {tg l : Expr} {tl : TE} (hK : X.K = K) (hl : PE X l tl) : PI X tg l (iList K tl) := by subst hK; exact pi_list hl
theorem pi_tupK {tg l : Expr} {tl : TE} (hK : X.K = K) (hl : PE X l tl) : PI X tg l (iTup K tl) := by subst hK; exact pi_tup hl
theorem op_in_seqK (hK : X.K = K) : OpR X (compareOp .In) (rIn K false) := by subst hK; exact op_in_seq
/-! ### calls with keywords alone -/
structure CalK (P : Program) (w : World) (K : PySem.W.Frag) (mg : Str → Option Value) (base : Heap) (k : Nat) (x : Str) (sp : Sp) (ks : List Str) (gV : List V → List V) : Prop where
  ex : ∃ (f : Addr) (fd : FuncData) (ps : List Str) (g : List Value → List Value → List Value), FnOk P w K mg base C8.CX0 k f fd ps sp ∧ mg x = some (.ref f) ∧ PySem.W.keepIn K (.ref f) = true ∧ KBn K fd ps 0 ks g (fun _ zs => gV zs)
structure MakK (P : Program) (w : World) (K : PySem.W.Frag) (mg : Str → Option Value) (base : Heap) (k : Nat) (x : Str) (C : Addr) (sp : Sp) (ks : List Str) : Prop where
  ex : ∃ (f : Addr) (fd : FuncData) (ps : List Str) (g : List Value → List Value → List Value), Mk K C f ∧ FnOk P w K mg base C8.CX0 k f fd ps sp ∧ mg x = some (.ref C) ∧ KBn K fd ps 1 ks g (fun vs zs => vs ++ zs)
section
variable {k j : Nat} {x : Str} {sp : Sp} {ks : List Str} {gV : List V → List V} {p pos : Pos} {kws : List Keyword} {tk : TA} {C : Addr}
theorem pe_k (c : CalK X.prog X.w X.K X.mg X.base k x sp ks gV) (hr : Room j X.A) (hk : k ≤ j) (hg : Gl X x) (hkw : PK X kws tk)
    (hall : (backToKw pos (keywordEach kws X.env)).all (·.1.isSome) = true := by rfl) (hks : (backToKw pos (keywordEach kws X.env)).filterMap (·.1) = ks := by rfl) (hdb : (x == ("__debug__" : Str)) = false := by decide)
    (hpl : ((backTo pos (starEach [] X.env)).any (·.1) || (backToKw pos (keywordEach kws X.env)).any (·.1.isNone)) = false := by rfl) :
    PE X (.Call (.Name x p) [] kws pos) (fun σ H Q => tk σ H fun zs H1 => zs.length = ks.length ∧ sp (gV zs) H1 Q C8.E0) := by
  obtain ⟨f, fd, ps, g, F, hm, kp, hb⟩ := c.ex
  refine ⟨fun pins s σ H Q I h => ?_⟩
  refine wpAny_Call_Name_kw (ld_glob I hg hm ?_ hdb)
  refine PySem.W.callWith_KW0 (h₀ := X.base) I.ok.mod.kin kp hall ?_ hpl
  refine thn (hkw.run pos pins s σ H _ I h) fun ws s2 ⟨zs, H2, I2, rz, l2, q2⟩ => ⟨I2.kIn, ?_⟩
  rw [hks]
  exact run_fnN (us := []) (vs := []) F (hr.mono hk) hb C8.pass0 I2 .nil rz rfl l2 q2
theorem pe_mkk (c : MakK X.prog X.w X.K X.mg X.base k x C sp ks) (hr : Room j X.A) (hk : k + 1 ≤ j) (hg : Gl X x) (hkw : PK X kws tk)
    (hall : (backToKw pos (keywordEach kws X.env)).all (·.1.isSome) = true := by rfl) (hks : (backToKw pos (keywordEach kws X.env)).filterMap (·.1) = ks := by rfl) (hdb : (x == ("__debug__" : Str)) = false := by decide)
    (hpl : ((backTo pos (starEach [] X.env)).any (·.1) || (backToKw pos (keywordEach kws X.env)).any (·.1.isNone)) = false := by rfl) :
    PE X (.Call (.Name x p) [] kws pos) (tMakeK C 0 ks.length sp (fun vs zs => vs ++ zs) C8.E0 tNil tk) := by
  obtain ⟨f, fd, ps, g, M, F, hm, hb⟩ := c.ex
  exact pe_makeK0 M F (hr.mono hk) hg hm hb C8.pass0 hkw hall hks hdb hpl
end
end Bs
namespace Bs
open PySem PySem.Spec PyProof.Rows L2
/-! ### zip(list, tuple), zip(list, list, list) -/
section mk
variable {prog : Program} {w : World} {A : Around} {E : Value → Shared → Prop} {s : Shared}
abbrev itO (T : String) (l : Addr) : Obj := { cls := .type T, data := .fields #[.ref l, .int 0 0] }
abbrev tuO (vs : Array Value) : Obj := { cls := .type "tuple", data := .seq vs }
abbrev ziO (a b : Addr) : Obj := { cls := .type "zip", data := .fields #[.none, .bool false, .bool false, .ref a, .ref b] }
abbrev zm2 (h : Heap) (l t : Addr) : Heap := (h.push (itO "list_iterator" l)).push (itO "tuple_iterator" t)
abbrev zm3 (h : Heap) (l t : Addr) : Heap := (zm2 h l t).push (tuO #[.ref h.objs.size, .ref (h.push (itO "list_iterator" l)).objs.size])
abbrev zm4 (h : Heap) (l t : Addr) : Heap := (zm3 h l t).push (tuO #[.none, .none])
abbrev zm5 (h : Heap) (l t : Addr) : Heap := (zm4 h l t).push (ziO (zm2 h l t).objs.size (zm3 h l t).objs.size)
theorem meets_zm (l t : Addr) (xs ys : Array Value) : Meets (Builtin.«zip.__new__» ⟨[.type "zip", .ref l, .ref t], []⟩) (fun _ R s => s.heap.IsList l xs ∧ s.heap.IsTuple t ys ∧ R (.ok (.ret (.ref (zm4 s.heap l t).objs.size))) { s with heap := zm5 s.heap l t }) :=
  .of_wp fun prog w A R s ⟨hl, ht, h⟩ => by
    obtain ⟨hp, g, d, tk, os⟩ := s
    have hsub := sub_zip
    have a1 : Heap.IsList (Shared.heap ⟨hp, g, d, tk, os⟩) l xs := hl
    have a2 : Heap.IsTuple (Shared.heap ⟨hp.push (itO "list_iterator" l), g, d, tk, os⟩) t ys := Heap.IsTuple.push ht _
    wp_walk using wpAny_pyIter_list a1, wpAny_pyIter_tuple a2
    exact ⟨_, rfl, h⟩
theorem call_zm {l t : Addr} {xs ys : Array Value} {Q : Value → Shared → Prop} (hl : s.heap.IsList l xs) (ht : s.heap.IsTuple t ys)
    (h : ∀ h' : Heap, IsZip h' (s.heap.objs.size + 4) (s.heap.objs.size + 2) (s.heap.objs.size + 3) .none → IsTupOf2 h' (s.heap.objs.size + 2) (.ref s.heap.objs.size) (.ref (s.heap.objs.size + 1)) → IsTupOf2 h' (s.heap.objs.size + 3) .none .none →
      h'.IsListIter s.heap.objs.size l 0 → h'.IsTupleIter (s.heap.objs.size + 1) t 0 → (∀ c o, s.heap.get? c = some o → h'.get? c = some o) → Q (.ref (s.heap.objs.size + 4)) { s with heap := h' }) : wpAny (model prog w) A (call (.type "zip") [.ref l, .ref t]) Q E s := by
  refine callType_new F.called_zip (by decide) (F.typeCall_zip_2 _ _) (F.newCall_zip_2 _ _) (fun obj => F.args_object_init_3 obj _ _) F.entry_zip_new (meets_zm l t xs ys) ⟨hl, ht, ?_⟩
  have e1 : (s.heap.push (itO "list_iterator" l)).objs.size = s.heap.objs.size + 1 := Heap.size_push ..
  have e2 : (zm2 s.heap l t).objs.size = s.heap.objs.size + 2 := by rw [Heap.size_push, e1]
  have e3 : (zm3 s.heap l t).objs.size = s.heap.objs.size + 3 := by rw [Heap.size_push, e2]
  have e4 : (zm4 s.heap l t).objs.size = s.heap.objs.size + 4 := by rw [Heap.size_push, e3]
  have g5 : (zm5 s.heap l t).get? (zm4 s.heap l t).objs.size = some _ := Heap.get?_push_size _ rfl
  have g4 : (zm5 s.heap l t).get? (zm3 s.heap l t).objs.size = some _ := Heap.get?_push_of_some _ (Heap.get?_push_size _ rfl)
  have g3 : (zm5 s.heap l t).get? (zm2 s.heap l t).objs.size = some _ := Heap.get?_push_of_some _ (Heap.get?_push_of_some _ (Heap.get?_push_size _ rfl))
  have g2 : (zm5 s.heap l t).get? (s.heap.push (itO "list_iterator" l)).objs.size = some _ := Heap.get?_push_of_some _ (Heap.get?_push_of_some _ (Heap.get?_push_of_some _ (Heap.get?_push_size _ rfl)))
  have g1 : (zm5 s.heap l t).get? s.heap.objs.size = some _ := Heap.get?_push_of_some _ (Heap.get?_push_of_some _ (Heap.get?_push_of_some _ (Heap.get?_push_of_some _ (Heap.get?_push_size _ rfl))))
  rw [e4] at g5
  rw [e3] at g4
  rw [e2] at g3
  rw [e1] at g2
  show _ ∧ _
  rw [e4]
  refine ⟨⟨_, g5, rfl⟩, h _ ?_ ?_ g4 ⟨_, g1, rfl, rfl⟩ ⟨_, g2, rfl, rfl⟩ fun c o x => Heap.get?_push_of_some _ (Heap.get?_push_of_some _ (Heap.get?_push_of_some _ (Heap.get?_push_of_some _ (Heap.get?_push_of_some _ x))))⟩
  · rw [e2, e3] at g5; exact g5
  · rw [e1] at g3; exact g3
theorem typeCall_z3 (a b c : Value) : checkTypeCall "zip" ⟨[a, b, c], []⟩ = pure () := by kernel_rfl
theorem newCall_z3 (a b c : Value) : checkBuiltinCall "zip.__new__" ⟨[.type "zip", a, b, c], []⟩ = pure () := by kernel_rfl
theorem argsInit4 (a b c d : Value) : argsOk "object.__init__" ⟨[a, b, c, d], []⟩ := by
  unfold argsOk
  rw [signature?_of (id := "object.__init__") (n := ['_', '_', 't', 'i', 'n', 'i', '_', '_']) (o := ['t', 'c', 'e', 'j', 'b', 'o']) (by kernel_rfl) F.owner_object]
  kernel_rfl
abbrev zt1 (h : Heap) (a : Addr) : Heap := h.push (itO "list_iterator" a)
abbrev zt2 (h : Heap) (a b : Addr) : Heap := (zt1 h a).push (itO "list_iterator" b)
abbrev zt3 (h : Heap) (a b c : Addr) : Heap := (zt2 h a b).push (itO "list_iterator" c)
abbrev zt4 (h : Heap) (a b c : Addr) : Heap := (zt3 h a b c).push (tuO #[.ref h.objs.size, .ref (zt1 h a).objs.size, .ref (zt2 h a b).objs.size])
abbrev zt5 (h : Heap) (a b c : Addr) : Heap := (zt4 h a b c).push (tuO #[.none, .none, .none])
abbrev zt6 (h : Heap) (a b c : Addr) : Heap := (zt5 h a b c).push (ziO (zt3 h a b c).objs.size (zt4 h a b c).objs.size)
theorem meets_zt (a b c : Addr) (xs ys zs : Array Value) : Meets (Builtin.«zip.__new__» ⟨[.type "zip", .ref a, .ref b, .ref c], []⟩) (fun _ R s => s.heap.IsList a xs ∧ s.heap.IsList b ys ∧ s.heap.IsList c zs ∧ R (.ok (.ret (.ref (zt5 s.heap a b c).objs.size))) { s with heap := zt6 s.heap a b c }) :=
  .of_wp fun prog w A R s ⟨ha, hb, hc, h⟩ => by
    obtain ⟨hp, g, d, tk, os⟩ := s
    have hsub := sub_zip
    have a1 : Heap.IsList (Shared.heap ⟨hp, g, d, tk, os⟩) a xs := ha
    have a2 : Heap.IsList (Shared.heap ⟨zt1 hp a, g, d, tk, os⟩) b ys := Heap.IsList.push hb _
    have a3 : Heap.IsList (Shared.heap ⟨zt2 hp a b, g, d, tk, os⟩) c zs := Heap.IsList.push (Heap.IsList.push hc _) _
    wp_walk using wpAny_pyIter_list a1, wpAny_pyIter_list a2, wpAny_pyIter_list a3
    exact ⟨_, rfl, h⟩
theorem call_zt {a b c : Addr} {xs ys zs : Array Value} {Q : Value → Shared → Prop} (ha : s.heap.IsList a xs) (hb : s.heap.IsList b ys) (hc : s.heap.IsList c zs)
    (h : ∀ h' : Heap, IsZip h' (s.heap.objs.size + 5) (s.heap.objs.size + 3) (s.heap.objs.size + 4) .none → IsTupOf3 h' (s.heap.objs.size + 3) (.ref s.heap.objs.size) (.ref (s.heap.objs.size + 1)) (.ref (s.heap.objs.size + 2)) → IsTupOf3 h' (s.heap.objs.size + 4) .none .none .none →
      h'.IsListIter s.heap.objs.size a 0 → h'.IsListIter (s.heap.objs.size + 1) b 0 → h'.IsListIter (s.heap.objs.size + 2) c 0 → (∀ c o, s.heap.get? c = some o → h'.get? c = some o) → Q (.ref (s.heap.objs.size + 5)) { s with heap := h' }) : wpAny (model prog w) A (call (.type "zip") [.ref a, .ref b, .ref c]) Q E s := by
  refine callType_new F.called_zip (by decide) (typeCall_z3 _ _ _) (newCall_z3 _ _ _) (fun obj => argsInit4 obj _ _ _) F.entry_zip_new (meets_zt a b c xs ys zs) ⟨ha, hb, hc, ?_⟩
  have e1 : (zt1 s.heap a).objs.size = s.heap.objs.size + 1 := Heap.size_push ..
  have e2 : (zt2 s.heap a b).objs.size = s.heap.objs.size + 2 := by rw [Heap.size_push, e1]
  have e3 : (zt3 s.heap a b c).objs.size = s.heap.objs.size + 3 := by rw [Heap.size_push, e2]
  have e4 : (zt4 s.heap a b c).objs.size = s.heap.objs.size + 4 := by rw [Heap.size_push, e3]
  have e5 : (zt5 s.heap a b c).objs.size = s.heap.objs.size + 5 := by rw [Heap.size_push, e4]
  have g6 : (zt6 s.heap a b c).get? (zt5 s.heap a b c).objs.size = some _ := Heap.get?_push_size _ rfl
  have g5 : (zt6 s.heap a b c).get? (zt4 s.heap a b c).objs.size = some _ := Heap.get?_push_of_some _ (Heap.get?_push_size _ rfl)
  have g4 : (zt6 s.heap a b c).get? (zt3 s.heap a b c).objs.size = some _ := Heap.get?_push_of_some _ (Heap.get?_push_of_some _ (Heap.get?_push_size _ rfl))
  have g3 : (zt6 s.heap a b c).get? (zt2 s.heap a b).objs.size = some _ := Heap.get?_push_of_some _ (Heap.get?_push_of_some _ (Heap.get?_push_of_some _ (Heap.get?_push_size _ rfl)))
  have g2 : (zt6 s.heap a b c).get? (zt1 s.heap a).objs.size = some _ := Heap.get?_push_of_some _ (Heap.get?_push_of_some _ (Heap.get?_push_of_some _ (Heap.get?_push_of_some _ (Heap.get?_push_size _ rfl))))
  have g1 : (zt6 s.heap a b c).get? s.heap.objs.size = some _ := Heap.get?_push_of_some _ (Heap.get?_push_of_some _ (Heap.get?_push_of_some _ (Heap.get?_push_of_some _ (Heap.get?_push_of_some _ (Heap.get?_push_size _ rfl)))))
  rw [e5] at g6
  rw [e4] at g5
  rw [e3] at g4
  rw [e2] at g3
  rw [e1] at g2
  show _ ∧ _
  rw [e5]
  refine ⟨⟨_, g6, rfl⟩, h _ ?_ ?_ g5 ⟨_, g1, rfl, rfl⟩ ⟨_, g2, rfl, rfl⟩ ⟨_, g3, rfl, rfl⟩ fun c o x => Heap.get?_push_of_some _ (Heap.get?_push_of_some _ (Heap.get?_push_of_some _ (Heap.get?_push_of_some _ (Heap.get?_push_of_some _ (Heap.get?_push_of_some _ x)))))⟩
  · rw [e3, e4] at g6; exact g6
  · rw [e1, e2] at g4; exact g4
end mk
end Bs
namespace Bs
open PySem PySem.Spec PyProof.Rows L2
def ItM (K : PySem.W.Frag) (a b : Addr) : It :=
  ⟨fun i H => ∃ (xs ys : List V) (x y : V), SqL K H a xs ∧ SqT K H b ys ∧ xs[i]? = some x ∧ ys[i]? = some y,
    fun i H v H' => ∃ (T : Addr) (x y : V), v = .ref T ∧ H T = none ∧ H' = upd H T (.tup [x, y]) ∧ (∀ xs, SqL K H a xs → xs[i]? = some x) ∧ ∀ ys, SqT K H b ys → ys[i]? = some y,
    fun i H => ∃ xs ys : List V, SqL K H a xs ∧ SqT K H b ys ∧ i ≤ xs.length ∧ i ≤ ys.length ∧ (i = xs.length ∨ i = ys.length)⟩
theorem turn_m {P : Program} {w : World} {K : PySem.W.Frag} {elts : List Expr} {kk : Nat} {tpos : Pos} {a b z TI TO i1 i2 : Addr} (D : ZipSep2 z TI TO i1 i2 [i1, a] [i2, b]) (na : a ≠ i1) (nb : b ≠ i2) :
    Turn P w K (.Tuple elts kk tpos) (ItM K a b) [z, TI, TO, i1, i2] z (fun i h => IsZip h z TI TO .none ∧ IsTupOf2 h TI (.ref i1) (.ref i2) ∧ (∃ x y, IsTupOf2 h TO x y) ∧ h.IsListIter i1 a i ∧ h.IsTupleIter i2 b i) where
  mem := List.mem_cons_self
  obj := fun i h st c hc => by
    obtain ⟨hz, hTI, ⟨x, y, hTO⟩, ⟨o1, e1, _, d1⟩, ⟨o2, e2, _, d2⟩⟩ := st
    simp only [List.mem_cons, List.mem_nil_iff, or_false] at hc
    rcases hc with q | q | q | q | q
    · subst q; exact ⟨_, hz, by intro v e; cases e⟩
    · subst q; exact ⟨_, hTI, by intro v e; cases e⟩
    · subst q; exact ⟨_, hTO, by intro v e; cases e⟩
    · exact ⟨o1, q ▸ e1, fun v q => by rw [d1] at q; cases q⟩
    · exact ⟨o2, q ▸ e2, fun v q => by rw [d2] at q; cases q⟩
  keep := fun i h h' ⟨hz, hTI, ⟨x, y, hTO⟩, h1, h2⟩ k => ⟨k z (by simp) _ hz, k TI (by simp) _ hTI, ⟨x, y, k TO (by simp) _ hTO⟩, h1.at fun o q => k i1 (by simp) o q, h2.at fun o q => k i2 (by simp) o q⟩
  item := by
    intro X hP hw hK hc i pins s σ H E I hf ⟨hz, hTI, ⟨x0, y0, hTO⟩, h1, h2⟩ ⟨xs, ys, x, y, hqx, hqy, hx, hy⟩
    subst hP hw hK
    obtain ⟨its, rv, p, _⟩ := I.list hqx
    obtain ⟨its2, rv2, p2, _⟩ := I.tuple hqy
    obtain ⟨u, hu, ru⟩ := rv.get hx
    obtain ⟨u2, hu2, ru2⟩ := rv2.get hy
    have hh := I.ok.hd hc
    have zl : z < s.heap.objs.size := Heap.lt_size hz
    have l1 := (List.getElem?_eq_some_iff.mp hu).1
    have l2 := (List.getElem?_eq_some_iff.mp hu2).1
    refine wpAny_pyNext_zipD2_item (i := i) D (Draws.list (A := X.A.in1) hh i1 a na its.toArray) (Draws.tuple (A := X.A.in1) hh i2 b nb its2.toArray) hz hTI hTO ⟨h1, p.isList⟩ ⟨h2, p2⟩ (by rw [List.size_toArray]; exact l1) (by rw [List.size_toArray]; exact l2) fun x1 x2 h' tk q1 q2 z' TO' s1' s2' hT _ hk => ?_
    have e1 : x1 = u := by rw [← Array.getElem?_toList] at q1; exact Option.some.inj (q1.symm.trans hu)
    have e2 : x2 = u2 := by rw [← Array.getElem?_toList] at q2; exact Option.some.inj (q2.symm.trans hu2)
    subst e1 e2
    refine ⟨_, rfl, wpAny_letOwnedTupleGo_zip (s := { s with heap := h', toks := tk }) z' fun h'' z'' sb => ?_⟩
    have hT2 : h''.get? s.heap.objs.size = some { cls := .type "tuple", data := .seq #[x1, x2] } := (sb.2 _ (Nat.ne_of_gt zl)).trans hT
    have new : ObjOk X.prog X.w (upd H s.heap.objs.size (.tup [x, y])) h'' s.heap.objs.size (.tup [x, y]) := ⟨by show 2 ≤ sizeLine; decide, [x1, x2], .cons ru (.cons ru2 .nil), ⟨_, hT2, rfl, _, rfl⟩⟩
    have I1 : Inv X pins σ (upd H s.heap.objs.size (.tup [x, y])) { s with heap := h'', toks := tk } :=
      I.turnedNew (t' := tk) (ch := [z, TI, TO, i1, i2]) (fun c o hb q => by
        simp only [List.mem_cons, List.mem_nil_iff, or_false, not_or] at hb
        exact (sb.2 c hb.1).trans (hk c o hb.1 hb.2.2.1 hb.2.2.2.1 hb.2.2.2.2 q)) hf (Nat.le_refl _) new
    refine ⟨.ref s.heap.objs.size, _, I1, rfl, ⟨_, x, y, rfl, I.hok.fresh (Nat.le_refl _), rfl, fun l hl => by rw [I.list_inj hl hqx]; exact hx, fun l hl => by rw [I.tuple_inj hl hqy]; exact hy⟩, ⟨z'', ?_, ⟨x1, x2, ?_⟩, ?_, ?_⟩, fun c hcm => ?_⟩
    · exact (sb.2 _ D.TIz).trans (hk _ _ D.TIz D.TITO D.TIi1 D.TIi2 hTI)
    · exact (sb.2 _ D.TOz).trans TO'
    · exact s1'.1.at fun o q => (sb.2 _ D.zi1.symm).trans q
    · exact s2'.1.at fun o q => (sb.2 _ D.zi2.symm).trans q
    · have hlt : c < s.heap.objs.size := by
        simp only [List.mem_cons, List.mem_nil_iff, or_false] at hcm
        rcases hcm with q | q | q | q | q
        · exact q ▸ zl
        · exact q ▸ Heap.lt_size hTI
        · exact q ▸ Heap.lt_size hTO
        · obtain ⟨_, e1, _⟩ := h1
          exact q ▸ Heap.lt_size e1
        · obtain ⟨_, e2, _⟩ := h2
          exact q ▸ Heap.lt_size e2
      rw [upd_ne (Nat.ne_of_lt hlt)]
      exact (hf c hcm).1
  done := by
    intro X hP hw hK hc i pins s σ H E I hf ⟨hz, hTI, ⟨x0, y0, hTO⟩, h1, h2⟩ ⟨xs, ys, hqx, hqy, m1, m2, hend⟩
    subst hP hw hK
    obtain ⟨its, rv, p, _⟩ := I.list hqx
    obtain ⟨its2, rv2, p2, _⟩ := I.tuple hqy
    have hh := I.ok.hd hc
    have l1 := rv.length
    have l2 := rv2.length
    exact wpAny_pyNext_zipD2_end (i := i) D (Draws.list (A := X.A.in1) hh i1 a na its.toArray) (Draws.tuple (A := X.A.in1) hh i2 b nb its2.toArray) hz hTI hTO ⟨h1, p.isList⟩ ⟨h2, p2⟩ (by rw [List.size_toArray]; omega) (by rw [List.size_toArray]; omega) (by rw [List.size_toArray, List.size_toArray]; omega)
      fun h' tk hk => ⟨rfl, I.turnedL (t' := tk) (ch := [z, TI, TO, i1, i2]) (fun c o hb q => by
        simp only [List.mem_cons, List.mem_nil_iff, or_false, not_or] at hb
        exact hk c o hb.1 hb.2.2.1 hb.2.2.2.1 hb.2.2.2.2 q) hf⟩
  self := fun A i s Q E st h => wpAny_pyIter_zip st.1 h
theorem pg_tupK {X : Cx} {K : PySem.W.Frag} {es : List Expr} {k n : Nat} {pos : Pos} {t : TGs} (hK : X.K = K) (hc : X.calm = true) (h : PGs X es t)
    (hn : (assignEach es X.env).length = n := by rfl) (hst : (assignEach es X.env).findIdx? (·.1) = none := by rfl) : PG X (.Tuple es k pos) (gTup K n t) := by
  subst hK
  exact pg_tup hc h hn hst
theorem nin2 {x a b : Nat} (h1 : x ≠ a) (h2 : x ≠ b) : x ∉ [a, b] := by
  simp only [List.mem_cons, List.mem_nil_iff, or_false, not_or]
  exact ⟨h1, h2⟩
theorem sep_m (I a b : Nat) (h1 : a < I) (h2 : b < I) : ZipSep2 (I + 4) (I + 2) (I + 3) I (I + 1) [I, a] [I + 1, b] where
  TIz := Nat.ne_of_lt (by omega)
  TOz := Nat.ne_of_lt (by omega)
  TITO := Nat.ne_of_lt (by omega)
  TIi1 := Nat.ne_of_gt (by omega)
  mem1 := List.mem_cons_self
  zf1 := nin2 (by omega) (by omega)
  Tf1 := nin2 (by omega) (by omega)
  TIi2 := Nat.ne_of_gt (by omega)
  mem2 := List.mem_cons_self
  zf2 := nin2 (by omega) (by omega)
  Tf2 := nin2 (by omega) (by omega)
  sep1_2 := nin2 (by omega) (by omega)
  sep2_1 := nin2 (by omega) (by omega)
theorem sep_t (I a b c : Nat) (h1 : a < I) (h2 : b < I) (h3 : c < I) : ZipSep3 (I + 5) (I + 3) (I + 4) I (I + 1) (I + 2) [I, a] [I + 1, b] [I + 2, c] := by
  constructor <;> first | exact List.mem_cons_self | exact nin2 (by omega) (by omega) | exact Nat.ne_of_lt (by omega) | exact Nat.ne_of_gt (by omega)
theorem ne_add (I b k : Nat) (h : b < I) : b ≠ I + k := by omega
theorem le_one {I c : Nat} (h : c = I + 4 ∨ c = I + 2 ∨ c = I + 3 ∨ c = I ∨ c = I + 1) : I ≤ c := by omega
theorem le_two {I c : Nat} (h : c = I + 5 ∨ c = I + 3 ∨ c = I + 4 ∨ c = I ∨ c = I + 1 ∨ c = I + 2) : I ≤ c := by omega
def iZipM (K : PySem.W.Frag) (ta : TA) : TI := fun σ H R => ta σ H fun vs H1 => ∃ (a b : Addr) (xs ys : List V), vs = [.ref a, .ref b] ∧ SqL K H1 a xs ∧ SqT K H1 b ys ∧ R (ItM K a b) H1
theorem pi_zipM {X : Cx} {K : PySem.W.Frag} {e e2 : Expr} {ta : TA} {p pos tpos : Pos} {elts : List Expr} {kk : Nat} (hK : X.K = K) (hg : Gl X "zip") (hm : X.mg "zip" = none) (ha : PA X [e, e2] ta)
    (hs : starEach [e, e2] X.env = (false, eval e X.env) :: starEach [e2] X.env := by rfl) (hpl : (backTo pos (starEach [e2] X.env)).any (·.1) = false := by rfl) :
    PI X (.Tuple elts kk tpos) (.Call (.Name "zip" p) [e, e2] [] pos) (iZipM K ta) := by
  subst hK
  refine ⟨fun pins s σ H R I h => ?_⟩
  refine Call_ (ld_blt I hg hm PyProof.Rows.boot_zip (PyProof.Rows.callWith_type1 (thn (ha.run pos pins s σ H _ I h) fun us s1 ⟨vs, H1, I1, r1, a, b, xs, ys, ex, hqx, hqy, q⟩ => ?_) hs hpl))
  subst ex
  obtain ⟨u1, u2, rfl, r, r'⟩ := vals2 r1
  cases r
  cases r'
  obtain ⟨its, rv, p1, _⟩ := I1.list hqx
  obtain ⟨its2, rv2, p2, _⟩ := I1.tuple hqy
  have la : a < s1.heap.objs.size := p1.lt
  have lb : b < s1.heap.objs.size := by obtain ⟨o, e, _⟩ := p2; exact Heap.lt_size e
  refine call_zm p1.isList p2 fun h' hz hTI hTO h1 h2 hk => wpAny_pyIter_zip hz ?_
  have I2 : Inv X pins σ H1 { s1 with heap := h' } := I1.kept (t' := s1.toks) hk
  have D := sep_m s1.heap.objs.size a b la lb
  refine ⟨s1.heap.objs.size + 4, [s1.heap.objs.size + 4, s1.heap.objs.size + 2, s1.heap.objs.size + 3, s1.heap.objs.size, s1.heap.objs.size + 1], _, _, H1, rfl, I2, turn_m D (Nat.ne_of_lt la) (ne_add _ _ 1 lb), ⟨hz, hTI, ⟨_, _, hTO⟩, h1, h2⟩, fun c hcm => ?_, q⟩
  have hle : s1.heap.objs.size ≤ c := by
    simp only [List.mem_cons, List.mem_nil_iff, or_false] at hcm
    exact le_one hcm
  exact I1.fpOk hle (I1.hok.fresh hle)
/-- a comprehension over such a zip, of one length -/
theorem lc_zipM {K : PySem.W.Frag} {a b : Addr} {xs ys : List V} {g : TG} {tt : TT} {te : TE} {vs : List Nat} {σ : L2.St} {H1 : Hp} {D : Addr} {Qd : Hp → Prop} (hl : xs.length = ys.length) (Pv : Nat → Hp → Prop) (h0 : Pv 0 (upd H1 D (.lst [])))
    (hq : ∀ i H, Pv i H → SqL K H a xs ∧ SqT K H b ys)
    (hs : ∀ i x y T H, xs[i]? = some x → ys[i]? = some y → Pv i H → H T = none → g (.ref T) (wipe σ vs) (upd H T (.tup [x, y])) fun σ2 H2 => wipe σ2 vs = wipe σ vs ∧ tt σ2 H2 fun b H3 =>
      if b = true then te σ2 H3 fun y H4 => ∃ acc, H4 D = some (.lst acc) ∧ acc.length < sizeLine ∧ Pv (i + 1) (upd H4 D (.lst (acc ++ [y]))) else Pv (i + 1) H3) (hd : ∀ H, Pv xs.length H → Qd H) :
    ∃ W : Nat → Nat → Hp → Prop, (∃ m, W 0 m (upd H1 D (.lst []))) ∧ ∀ i m H, W i m H →
      ((ItM K a b).stop i H ∧ Qd H) ∨ ((ItM K a b).go i H ∧ ∃ Nx : Hp → Prop, (∀ H', Nx H' → ∃ m', m' < m ∧ W (i + 1) m' H') ∧ ∀ x H', (ItM K a b).yld i H x H' → g x (wipe σ vs) H' fun σ2 H2 => wipe σ2 vs = wipe σ vs ∧ tt σ2 H2 fun b H3 =>
        if b = true then te σ2 H3 fun y H4 => ∃ acc, H4 D = some (.lst acc) ∧ acc.length < sizeLine ∧ Nx (upd H4 D (.lst (acc ++ [y]))) else Nx H3) := by
  refine ⟨fun i m H => Pv i H ∧ i + m = xs.length, ⟨xs.length, h0, Nat.zero_add _⟩, fun i m H ⟨hp, em⟩ => ?_⟩
  obtain ⟨qx, qy⟩ := hq i H hp
  cases m with
  | zero =>
    have e : i = xs.length := em
    subst e
    exact .inl ⟨⟨xs, ys, qx, qy, Nat.le_refl _, by omega, .inl rfl⟩, hd H hp⟩
  | succ m =>
    have li : i < xs.length := by omega
    have hx := List.getElem?_eq_getElem li
    have hy := List.getElem?_eq_getElem (l := ys) (i := i) (by omega)
    refine .inr ⟨⟨xs, ys, _, _, qx, qy, hx, hy⟩, Pv (i + 1), fun H' h' => ⟨m, Nat.lt_succ_self m, h', by omega⟩, ?_⟩
    rintro _ _ ⟨T, x, y, rfl, hT, rfl, ex, ey⟩
    exact hs i x y T H (ex xs qx) (ey ys qy) hp hT
/-- a comprehension over zip of two lists of one length -/
theorem lc_zipL {K : PySem.W.Frag} {a b : Addr} {xs ys : List V} {g : TG} {tt : TT} {te : TE} {vs : List Nat} {σ : L2.St} {H1 : Hp} {D : Addr} {Qd : Hp → Prop} (hl : xs.length = ys.length) (Pv : Nat → Hp → Prop) (h0 : Pv 0 (upd H1 D (.lst [])))
    (hq : ∀ i H, Pv i H → SqL K H a xs ∧ SqL K H b ys)
    (hs : ∀ i x y T H, xs[i]? = some x → ys[i]? = some y → Pv i H → H T = none → g (.ref T) (wipe σ vs) (upd H T (.tup [x, y])) fun σ2 H2 => wipe σ2 vs = wipe σ vs ∧ tt σ2 H2 fun b H3 =>
      if b = true then te σ2 H3 fun y H4 => ∃ acc, H4 D = some (.lst acc) ∧ acc.length < sizeLine ∧ Pv (i + 1) (upd H4 D (.lst (acc ++ [y]))) else Pv (i + 1) H3) (hd : ∀ H, Pv xs.length H → Qd H) :
    ∃ W : Nat → Nat → Hp → Prop, (∃ m, W 0 m (upd H1 D (.lst []))) ∧ ∀ i m H, W i m H →
      ((Itz K a b).stop i H ∧ Qd H) ∨ ((Itz K a b).go i H ∧ ∃ Nx : Hp → Prop, (∀ H', Nx H' → ∃ m', m' < m ∧ W (i + 1) m' H') ∧ ∀ x H', (Itz K a b).yld i H x H' → g x (wipe σ vs) H' fun σ2 H2 => wipe σ2 vs = wipe σ vs ∧ tt σ2 H2 fun b H3 =>
        if b = true then te σ2 H3 fun y H4 => ∃ acc, H4 D = some (.lst acc) ∧ acc.length < sizeLine ∧ Nx (upd H4 D (.lst (acc ++ [y]))) else Nx H3) := by
  refine ⟨fun i m H => Pv i H ∧ i + m = xs.length, ⟨xs.length, h0, Nat.zero_add _⟩, fun i m H ⟨hp, em⟩ => ?_⟩
  obtain ⟨qx, qy⟩ := hq i H hp
  cases m with
  | zero =>
    have e : i = xs.length := em
    subst e
    exact .inl ⟨⟨xs, ys, qx, qy, .inl (Nat.le_refl _)⟩, hd H hp⟩
  | succ m =>
    have li : i < xs.length := by omega
    have hx := List.getElem?_eq_getElem li
    have hy := List.getElem?_eq_getElem (l := ys) (i := i) (by omega)
    refine .inr ⟨⟨xs, ys, _, _, qx, qy, hx, hy⟩, Pv (i + 1), fun H' h' => ⟨m, Nat.lt_succ_self m, h', by omega⟩, ?_⟩
    rintro _ _ ⟨T, x, y, rfl, hT, rfl, ex, ey⟩
    exact hs i x y T H (ex xs qx) (ey ys qy) hp hT
/-! three lists -/
def It3 (K : PySem.W.Frag) (a b c : Addr) : It :=
  ⟨fun i H => ∃ (xs ys zs : List V) (x y z : V), SqL K H a xs ∧ SqL K H b ys ∧ SqL K H c zs ∧ xs[i]? = some x ∧ ys[i]? = some y ∧ zs[i]? = some z,
    fun i H v H' => ∃ (T : Addr) (x y z : V), v = .ref T ∧ H T = none ∧ H' = upd H T (.tup [x, y, z]) ∧ (∀ xs, SqL K H a xs → xs[i]? = some x) ∧ (∀ ys, SqL K H b ys → ys[i]? = some y) ∧ ∀ zs, SqL K H c zs → zs[i]? = some z,
    fun i H => ∃ xs ys zs : List V, SqL K H a xs ∧ SqL K H b ys ∧ SqL K H c zs ∧ i ≤ xs.length ∧ i ≤ ys.length ∧ i ≤ zs.length ∧ (i = xs.length ∨ i = ys.length ∨ i = zs.length)⟩
theorem turn_3 {P : Program} {w : World} {K : PySem.W.Frag} {elts : List Expr} {kk : Nat} {tpos : Pos} {a b c z TI TO i1 i2 i3 : Addr} (D : ZipSep3 z TI TO i1 i2 i3 [i1, a] [i2, b] [i3, c]) (na : a ≠ i1) (nb : b ≠ i2) (nc : c ≠ i3) :
    Turn P w K (.Tuple elts kk tpos) (It3 K a b c) [z, TI, TO, i1, i2, i3] z (fun i h => IsZip h z TI TO .none ∧ IsTupOf3 h TI (.ref i1) (.ref i2) (.ref i3) ∧ (∃ x y u, IsTupOf3 h TO x y u) ∧ h.IsListIter i1 a i ∧ h.IsListIter i2 b i ∧ h.IsListIter i3 c i) where
  mem := List.mem_cons_self
  obj := fun i h st q hc => by
    obtain ⟨hz, hTI, ⟨x, y, u, hTO⟩, ⟨o1, e1, _, d1⟩, ⟨o2, e2, _, d2⟩, ⟨o3, e3, _, d3⟩⟩ := st
    simp only [List.mem_cons, List.mem_nil_iff, or_false] at hc
    rcases hc with q | q | q | q | q | q
    · subst q; exact ⟨_, hz, by intro v e; cases e⟩
    · subst q; exact ⟨_, hTI, by intro v e; cases e⟩
    · subst q; exact ⟨_, hTO, by intro v e; cases e⟩
    · exact ⟨o1, q ▸ e1, fun v q => by rw [d1] at q; cases q⟩
    · exact ⟨o2, q ▸ e2, fun v q => by rw [d2] at q; cases q⟩
    · exact ⟨o3, q ▸ e3, fun v q => by rw [d3] at q; cases q⟩
  keep := fun i h h' ⟨hz, hTI, ⟨x, y, u, hTO⟩, h1, h2, h3⟩ k => ⟨k z (by simp) _ hz, k TI (by simp) _ hTI, ⟨x, y, u, k TO (by simp) _ hTO⟩, h1.at fun o q => k i1 (by simp) o q, h2.at fun o q => k i2 (by simp) o q, h3.at fun o q => k i3 (by simp) o q⟩
  item := by
    intro X hP hw hK hc i pins s σ H E I hf ⟨hz, hTI, ⟨x0, y0, u0, hTO⟩, h1, h2, h3⟩ ⟨xs, ys, zs, x, y, zz, hqx, hqy, hqz, hx, hy, hzz⟩
    subst hP hw hK
    obtain ⟨its, rv, p, _⟩ := I.list hqx
    obtain ⟨its2, rv2, p2, _⟩ := I.list hqy
    obtain ⟨its3, rv3, p3, _⟩ := I.list hqz
    obtain ⟨u, hu, ru⟩ := rv.get hx
    obtain ⟨u2, hu2, ru2⟩ := rv2.get hy
    obtain ⟨u3, hu3, ru3⟩ := rv3.get hzz
    have hh := I.ok.hd hc
    have zl : z < s.heap.objs.size := Heap.lt_size hz
    have l1 := (List.getElem?_eq_some_iff.mp hu).1
    have l2 := (List.getElem?_eq_some_iff.mp hu2).1
    have l3 := (List.getElem?_eq_some_iff.mp hu3).1
    refine wpAny_pyNext_zipD3_item (i := i) D (Draws.list (A := X.A.in1) hh i1 a na its.toArray) (Draws.list (A := X.A.in1) hh i2 b nb its2.toArray) (Draws.list (A := X.A.in1) hh i3 c nc its3.toArray) hz hTI hTO ⟨h1, p.isList⟩ ⟨h2, p2.isList⟩ ⟨h3, p3.isList⟩ (by rw [List.size_toArray]; exact l1) (by rw [List.size_toArray]; exact l2) (by rw [List.size_toArray]; exact l3) fun x1 x2 x3 h' tk q1 q2 q3 z' TO' s1' s2' s3' hT _ hk => ?_
    have e1 : x1 = u := by rw [← Array.getElem?_toList] at q1; exact Option.some.inj (q1.symm.trans hu)
    have e2 : x2 = u2 := by rw [← Array.getElem?_toList] at q2; exact Option.some.inj (q2.symm.trans hu2)
    have e3 : x3 = u3 := by rw [← Array.getElem?_toList] at q3; exact Option.some.inj (q3.symm.trans hu3)
    subst e1 e2 e3
    refine ⟨_, rfl, wpAny_letOwnedTupleGo_zip (s := { s with heap := h', toks := tk }) z' fun h'' z'' sb => ?_⟩
    have hT2 : h''.get? s.heap.objs.size = some { cls := .type "tuple", data := .seq #[x1, x2, x3] } := (sb.2 _ (Nat.ne_of_gt zl)).trans hT
    have new : ObjOk X.prog X.w (upd H s.heap.objs.size (.tup [x, y, zz])) h'' s.heap.objs.size (.tup [x, y, zz]) := ⟨by show 3 ≤ sizeLine; decide, [x1, x2, x3], .cons ru (.cons ru2 (.cons ru3 .nil)), ⟨_, hT2, rfl, _, rfl⟩⟩
    have I1 : Inv X pins σ (upd H s.heap.objs.size (.tup [x, y, zz])) { s with heap := h'', toks := tk } :=
      I.turnedNew (t' := tk) (ch := [z, TI, TO, i1, i2, i3]) (fun c o hb q => by
        simp only [List.mem_cons, List.mem_nil_iff, or_false, not_or] at hb
        exact (sb.2 c hb.1).trans (hk c o hb.1 hb.2.2.1 hb.2.2.2.1 hb.2.2.2.2.1 hb.2.2.2.2.2 q)) hf (Nat.le_refl _) new
    refine ⟨.ref s.heap.objs.size, _, I1, rfl, ⟨_, x, y, zz, rfl, I.hok.fresh (Nat.le_refl _), rfl, fun l hl => by rw [I.list_inj hl hqx]; exact hx, fun l hl => by rw [I.list_inj hl hqy]; exact hy, fun l hl => by rw [I.list_inj hl hqz]; exact hzz⟩, ⟨z'', ?_, ⟨x1, x2, x3, ?_⟩, ?_, ?_, ?_⟩, fun c hcm => ?_⟩
    · exact (sb.2 _ D.TIz).trans (hk _ _ D.TIz D.TITO D.TIi1 D.TIi2 D.TIi3 hTI)
    · exact (sb.2 _ D.TOz).trans TO'
    · exact s1'.1.at fun o q => (sb.2 _ D.zi1.symm).trans q
    · exact s2'.1.at fun o q => (sb.2 _ D.zi2.symm).trans q
    · exact s3'.1.at fun o q => (sb.2 _ D.zi3.symm).trans q
    · have hlt : c < s.heap.objs.size := by
        simp only [List.mem_cons, List.mem_nil_iff, or_false] at hcm
        rcases hcm with q | q | q | q | q | q
        · exact q ▸ zl
        · exact q ▸ Heap.lt_size hTI
        · exact q ▸ Heap.lt_size hTO
        · obtain ⟨_, e1, _⟩ := h1
          exact q ▸ Heap.lt_size e1
        · obtain ⟨_, e2, _⟩ := h2
          exact q ▸ Heap.lt_size e2
        · obtain ⟨_, e3, _⟩ := h3
          exact q ▸ Heap.lt_size e3
      rw [upd_ne (Nat.ne_of_lt hlt)]
      exact (hf c hcm).1
  done := by
    intro X hP hw hK hc i pins s σ H E I hf ⟨hz, hTI, ⟨x0, y0, u0, hTO⟩, h1, h2, h3⟩ ⟨xs, ys, zs, hqx, hqy, hqz, m1, m2, m3, hend⟩
    subst hP hw hK
    obtain ⟨its, rv, p, _⟩ := I.list hqx
    obtain ⟨its2, rv2, p2, _⟩ := I.list hqy
    obtain ⟨its3, rv3, p3, _⟩ := I.list hqz
    have hh := I.ok.hd hc
    have l1 := rv.length
    have l2 := rv2.length
    have l3 := rv3.length
    exact wpAny_pyNext_zipD3_end (i := i) D (Draws.list (A := X.A.in1) hh i1 a na its.toArray) (Draws.list (A := X.A.in1) hh i2 b nb its2.toArray) (Draws.list (A := X.A.in1) hh i3 c nc its3.toArray) hz hTI hTO ⟨h1, p.isList⟩ ⟨h2, p2.isList⟩ ⟨h3, p3.isList⟩ (by rw [List.size_toArray]; omega) (by rw [List.size_toArray]; omega) (by rw [List.size_toArray]; omega)
      (by rw [List.size_toArray, List.size_toArray, List.size_toArray]; omega)
      fun h' tk hk => ⟨rfl, I.turnedL (t' := tk) (ch := [z, TI, TO, i1, i2, i3]) (fun c o hb q => by
        simp only [List.mem_cons, List.mem_nil_iff, or_false, not_or] at hb
        exact hk c o hb.1 hb.2.2.1 hb.2.2.2.1 hb.2.2.2.2.1 hb.2.2.2.2.2 q) hf⟩
  self := fun A i s Q E st h => wpAny_pyIter_zip st.1 h
def iZip3 (K : PySem.W.Frag) (ta : TA) : TI := fun σ H R => ta σ H fun vs H1 => ∃ (a b c : Addr) (xs ys zs : List V), vs = [.ref a, .ref b, .ref c] ∧ SqL K H1 a xs ∧ SqL K H1 b ys ∧ SqL K H1 c zs ∧ R (It3 K a b c) H1
theorem pi_zip3 {X : Cx} {K : PySem.W.Frag} {e e2 e3 : Expr} {ta : TA} {p pos tpos : Pos} {elts : List Expr} {kk : Nat} (hK : X.K = K) (hg : Gl X "zip") (hm : X.mg "zip" = none) (ha : PA X [e, e2, e3] ta)
    (hs : starEach [e, e2, e3] X.env = (false, eval e X.env) :: starEach [e2, e3] X.env := by rfl) (hpl : (backTo pos (starEach [e2, e3] X.env)).any (·.1) = false := by rfl) :
    PI X (.Tuple elts kk tpos) (.Call (.Name "zip" p) [e, e2, e3] [] pos) (iZip3 K ta) := by
  subst hK
  refine ⟨fun pins s σ H R I h => ?_⟩
  refine Call_ (ld_blt I hg hm PyProof.Rows.boot_zip (PyProof.Rows.callWith_type1 (thn (ha.run pos pins s σ H _ I h) fun us s1 ⟨vs, H1, I1, r1, a, b, c, xs, ys, zs, ex, hqx, hqy, hqz, q⟩ => ?_) hs hpl))
  subst ex
  cases r1 with
  | cons r rr =>
  cases rr with
  | cons r' rr =>
  cases rr with
  | cons r'' rr =>
  cases rr
  cases r
  cases r'
  cases r''
  obtain ⟨its, rv, p1, _⟩ := I1.list hqx
  obtain ⟨its2, rv2, p2, _⟩ := I1.list hqy
  obtain ⟨its3, rv3, p3, _⟩ := I1.list hqz
  refine call_zt p1.isList p2.isList p3.isList fun h' hz hTI hTO h1 h2 h3 hk => wpAny_pyIter_zip hz ?_
  have I2 : Inv X pins σ H1 { s1 with heap := h' } := I1.kept (t' := s1.toks) hk
  have D := sep_t s1.heap.objs.size a b c p1.lt p2.lt p3.lt
  refine ⟨s1.heap.objs.size + 5, [s1.heap.objs.size + 5, s1.heap.objs.size + 3, s1.heap.objs.size + 4, s1.heap.objs.size, s1.heap.objs.size + 1, s1.heap.objs.size + 2], _, _, H1, rfl, I2, turn_3 D (Nat.ne_of_lt p1.lt) (ne_add _ _ 1 p2.lt) (ne_add _ _ 2 p3.lt), ⟨hz, hTI, ⟨_, _, _, hTO⟩, h1, h2, h3⟩, fun c hcm => ?_, q⟩
  have hle : s1.heap.objs.size ≤ c := by
    simp only [List.mem_cons, List.mem_nil_iff, or_false] at hcm
    exact le_two hcm
  exact I1.fpOk hle (I1.hok.fresh hle)
theorem for_zip3 {K : PySem.W.Frag} {a b c : Addr} {xs ys zs : List V} {g : TG} {tb : TS} {D : Ends} {σ : L2.St} {H : Hp} (h1 : xs.length = ys.length) (h2 : xs.length = zs.length) (Pv : Nat → L2.St → Hp → Prop) (h0 : Pv 0 σ H)
    (hq : ∀ i σ H, Pv i σ H → SqL K H a xs ∧ SqL K H b ys ∧ SqL K H c zs)
    (hs : ∀ i x y z T σ H, xs[i]? = some x → ys[i]? = some y → zs[i]? = some z → Pv i σ H → H T = none → g (.ref T) σ (upd H T (.tup [x, y, z])) fun σ2 H2 => tb { nx := Pv (i + 1), rt := D.rt, bk := D.nx, ct := Pv (i + 1) } σ2 H2)
    (hd : ∀ σ H, Pv xs.length σ H → D.nx σ H) :
    ∃ W : Nat → Nat → L2.St → Hp → Prop, (∃ m, W 0 m σ H) ∧ ∀ i m σ H, W i m σ H → ((It3 K a b c).stop i H ∧ D.nx σ H) ∨ ((It3 K a b c).go i H ∧ ∃ N : L2.St → Hp → Prop, (∀ σ' H', N σ' H' → ∃ m', m' < m ∧ W (i + 1) m' σ' H') ∧
      ∀ x H', (It3 K a b c).yld i H x H' → g x σ H' fun σ2 H2 => tb { nx := N, rt := D.rt, bk := D.nx, ct := N } σ2 H2) := by
  refine ⟨fun i m σ H => Pv i σ H ∧ i + m = xs.length, ⟨xs.length, h0, Nat.zero_add _⟩, fun i m σ H ⟨hp, em⟩ => ?_⟩
  obtain ⟨qx, qy, qz⟩ := hq i σ H hp
  cases m with
  | zero =>
    have e : i = xs.length := em
    subst e
    exact .inl ⟨⟨xs, ys, zs, qx, qy, qz, Nat.le_refl _, by omega, by omega, .inl rfl⟩, hd σ H hp⟩
  | succ m =>
    have li : i < xs.length := by omega
    have hx := List.getElem?_eq_getElem li
    have hy := List.getElem?_eq_getElem (l := ys) (i := i) (by omega)
    have hz := List.getElem?_eq_getElem (l := zs) (i := i) (by omega)
    refine .inr ⟨⟨xs, ys, zs, _, _, _, qx, qy, qz, hx, hy, hz⟩, Pv (i + 1), fun σ' H' h' => ⟨m, Nat.lt_succ_self m, h', by omega⟩, ?_⟩
    rintro _ _ ⟨T, x, y, z, rfl, hT, rfl, ex, ey, ez⟩
    exact hs i x y z T σ H (ex xs qx) (ey ys qy) (ez zs qz) hp hT
end Bs
namespace Bs
open PySem PySem.Spec PyProof.Rows L2 GenW
/-! ### yield from a list -/
section
variable {prog : Program} {w : World} {A : Around} {E : Value → Shared → Prop} {s : Shared}
theorem sp_list_item {it l : Addr} {i : Nat} {items : Array Value} {x : Value} {Q : Option Value → Shared → Prop} (hit : s.heap.IsListIter it l i) (hl : s.heap.IsList l items) (hx : items[i]? = some x)
    (hQ : ∀ h', h'.IsListIter it l (i + 1) → Heap.SameBut it s.heap h' → Q (some x) { s with heap := h' }) : wpAny (model prog w) A (callSpecial? (.ref it) "__next__") Q E s := by
  obtain ⟨o, ho, hc, hd⟩ := id hit
  obtain ⟨ol, hol, _, nl, hdl⟩ := hl
  refine wpAny_callSpecial?_slot (name := Str.ofString "__next__") hit.typeIs slot_listiter_next (wpAny_call_entry slot_listiter_next hit.typeIs entry_listiter_next ?_ (args_listiter_next _))
  show wpAny _ _ (field (.ref it) 0 >>= _) _ _ s
  refine wpAny_bind (wpAny_field ho hd (x := .ref l) rfl ?_)
  show wpAny _ _ (if (Value.ref l == Value.none) = true then _ else _) _ _ s
  rw [if_neg (show ¬ ((Value.ref l == Value.none) = true) from Bool.false_ne_true)]
  show wpAny _ _ (field (.ref it) 1 >>= _) _ _ s
  refine wpAny_bind (wpAny_field ho hd (x := .int i 0) rfl ?_)
  show wpAny _ _ (seqItems? (.ref l) >>= _) _ _ s
  refine wpAny_bind (wpAny_seqItems hol hdl ?_)
  simp only [Int.toNat_natCast, hx]
  refine wpAny_bind (wpAny_setField ho hd (by simp) (wpAny_pure ⟨x, rfl, hQ _ ?_ (Heap.SameBut.update ..)⟩))
  exact ⟨_, Heap.get?_update_self _ ho (Obj.isFreed_of_fields (Obj.data_mapFields hd _)), (Obj.cls_mapFields ..).trans hc, by rw [Obj.data_mapFields hd]; simp [rawInt]⟩
theorem sp_list_end {it l : Addr} {i : Nat} {items : Array Value} {Q : Option Value → Shared → Prop} (hh : A.handled = none) (hit : s.heap.IsListIter it l i) (hl : s.heap.IsList l items) (hx : items[i]? = none)
    (hE : ∀ e h', StopX e h' → Heap.ExtBut it s.heap h' → E e { s with heap := h' }) : wpAny (model prog w) A (callSpecial? (.ref it) "__next__") Q E s := by
  obtain ⟨o, ho, hc, hd⟩ := id hit
  obtain ⟨ol, hol, _, nl, hdl⟩ := hl
  refine wpAny_callSpecial?_slot (name := Str.ofString "__next__") hit.typeIs slot_listiter_next (wpAny_call_entry slot_listiter_next hit.typeIs entry_listiter_next ?_ (args_listiter_next _))
  show wpAny _ _ (field (.ref it) 0 >>= _) _ _ s
  refine wpAny_bind (wpAny_field ho hd (x := .ref l) rfl ?_)
  show wpAny _ _ (if (Value.ref l == Value.none) = true then _ else _) _ _ s
  rw [if_neg (show ¬ ((Value.ref l == Value.none) = true) from Bool.false_ne_true)]
  show wpAny _ _ (field (.ref it) 1 >>= _) _ _ s
  refine wpAny_bind (wpAny_field ho hd (x := .int i 0) rfl ?_)
  show wpAny _ _ (seqItems? (.ref l) >>= _) _ _ s
  refine wpAny_bind (wpAny_seqItems hol hdl ?_)
  simp only [Int.toNat_natCast, hx]
  refine wpAny_bind (wpAny_rule (wpAny_bind (wpAny_setField ho hd (by simp) ?_)))
  show wpAny _ _ (newExc (.type "StopIteration") [] >>= _) _ _ _
  refine wpAny_bind ?_
  simp only [newExc, newTuple]
  refine wpAny_bind (wpAny_newObj_type ?_ (by size_fits))
  refine wpAny_bind (m := firstArgMember _ _) (wpAny_of_eq (a := Value.none) (by first | rfl | (simp only [firstArgMember]; rfl)) ?_)
  refine wpAny_newObj_type ?_ (by size_fits)
  simp only [raiseNew]
  refine wpAny_bind (wpAny_handled ?_)
  first | rw [show A.in1.handled = none from hh] | rw [hh]
  refine wpAny_bind (wpAny_pure (wpAny_throw ?_))
  refine hE _ _ ⟨_, _, _, rfl, Heap.get?_push_size _ rfl, rfl, rfl, ?_⟩ (((Heap.SameBut.update ..).extBut.push _).push _)
  first
    | rfl
    | (rw [Array.getElem?_append_left (by decide)]; rfl)
    | kernel_rfl
end
def tYfLst (te : TE) : TYf := fun σ H Q => te σ H fun x H1 => ∃ a xs, x = .ref a ∧ H1 a = some (.lst xs) ∧ Q xs H1
theorem close_lst : typeLookup (.type "list_iterator") "close" = pure none := by rw [typeLookup_type, builtinLookup_eq_fast]; kernel_rfl
theorem yf_lst {X : Cx} {e : Expr} {te : TE} (he : PE X e te) : YfE X e (tYfLst te) := by
  refine ⟨fun pins s σ H Q I h => ?_⟩
  refine thn (he.run pins s σ H _ I h) fun v s1 ⟨x, H1, I1, r1, a, xs, ex, ha, hq⟩ => ?_
  subst ex
  obtain rfl : v = Value.ref a := r1
  obtain ⟨hlen, its, cap, rits, ht0⟩ := (show ObjOk X.prog X.w H1 s1.heap a (.lst xs) from I1.hok a _ ha)
  have ht : s1.heap.IsList a its.toArray := ⟨_, ht0, rfl, _, rfl⟩
  have htl : a < s1.heap.objs.size := Heap.lt_size ht0
  refine ⟨"list", ht.typeIs, by decide, wpAny_pyIter_list ht ?_⟩
  have ksz : ∀ b o, s1.heap.get? b = some o → b ≠ s1.heap.objs.size := fun b o e => Nat.ne_of_lt (Heap.lt_size e)
  have kp : ∀ b o, s1.heap.get? b = some o → (s1.heap.push { cls := .type "list_iterator", data := .fields #[.ref a, .int 0 0] }).get? b = some o := fun b o e => Heap.get?_push_of_some _ e
  refine ⟨s1.heap.objs.size, H1, xs, fun j h => h.IsListIter s1.heap.objs.size a j ∧ h.IsList a its.toArray, rfl, I1.kept (t' := s1.toks) kp, .inr I1.sz, Nat.ne_of_gt I1.lt, fun y c hy => ?_, I1.hok.fresh (Nat.le_refl _), fun p hp => ?_,
    ⟨⟨_, Heap.get?_push_size _ rfl, rfl, rfl⟩, ⟨_, kp _ _ ht0, rfl, _, rfl⟩⟩, ⟨⟨"list_iterator", fun j h q => ?_, close_lst, by decide⟩, fun j h h' q hk => ?_, fun A' j x s2 Q' E' hA hx q hQ => ?_, fun A' s2 Q' E' hA q hE => ?_⟩, hq⟩
  · obtain ⟨v, o, ho, _⟩ := I1.cell y c hy
    exact ksz c o ho
  · exact ksz p.1 _ (I1.pin p hp).1
  · obtain ⟨⟨o, ho, hc, _⟩, _⟩ := q
    exact ⟨o, ho, hc⟩
  · obtain ⟨⟨o, ho, r⟩, o2, ho2, r2⟩ := q
    exact ⟨⟨o, hk _ o (.inl rfl) ho, r⟩, o2, hk _ o2 (.inr (by rw [ha]; exact fun z => by cases z)) ho2, r2⟩
  · obtain ⟨q1, q2⟩ := q
    obtain ⟨u, hu, ru⟩ := rits.get hx
    have hne : a ≠ s1.heap.objs.size := Nat.ne_of_lt htl
    refine sp_list_item q1 q2 (x := u) (by simpa using hu) fun h' q1' hs => hQ u h' s2.toks ru ⟨q1', ?_⟩ fun b o hb eb => hs.extBut b o hb eb
    obtain ⟨o2, ho2, r2⟩ := q2
    exact ⟨o2, hs.extBut _ _ hne ho2, r2⟩
  · obtain ⟨q1, q2⟩ := q
    have hnone : its.toArray[xs.length]? = none := by
      have e := rits.length
      have e2 : its[xs.length]? = none := List.getElem?_eq_none_iff.mpr (by omega)
      simpa using e2
    exact sp_list_end hA q1 q2 hnone fun e h' hS hk => hE e h' s2.toks hS fun b o hb eb => hk b o hb eb
/-! ### list(d.values()) -/
theorem kv_at {κ : Type} : ∀ {kvs : List (κ × V)} {vs : List (κ × Value)}, KV kvs vs → ∀ {j : Nat} {x : V} {k : κ} {w : Value}, (kvs.map fun kv => kv.2)[j]? = some x → vs[j]? = some (k, w) → RelV x w
  | _, _, .cons r t, 0, _, _, _, h1, h2 => by
    simp only [List.map_cons, List.getElem?_cons_zero, Option.some.injEq] at h1 h2
    rw [← h1]
    have e := r.2
    rw [h2] at e
    exact e
  | _, _, .cons r t, j + 1, _, _, _, h1, h2 => kv_at t (j := j) (by simpa using h1) (by simpa using h2)
  | _, _, .nil, _, _, _, _, _, h2 => by simp at h2
def tLV (td : TE) : TE := fun σ H Q => td σ H fun x H1 => ∃ d kvs, x = .ref d ∧ H1 d = some (.dK kvs) ∧ ∀ q, H1 q = none → Q (.ref q) (upd H1 q (.lst (kvs.map fun kv => kv.2)))
theorem pe_listVals {X : Cx} {e : Expr} {td : TE} {p pos apos cpos : Pos} (hc : X.calm = true) (hg : Gl X "list") (hmg : X.mg "list" = none) (he : PE X e td)
    (hbase : attributeBase e "values" X.env (eval e X.env) = eval e X.env := by rfl) (hline : (apos.endLine == cpos.line) = true := by rfl)
    (hst : starEach [.Call (.Attribute e "values" apos) [] [] cpos] X.env = (false, eval (.Call (.Attribute e "values" apos) [] [] cpos) X.env) :: starEach [] X.env := by rfl) :
    PE X (.Call (.Name "list" p) [.Call (.Attribute e "values" apos) [] [] cpos] [] pos) (tLV td) := by
  refine ⟨fun pins s σ H Q I h => ?_⟩
  refine wpAny_Call_Name_kw (ld_blt I hg hmg boot_list ?_ (by decide) (by decide))
  refine PyProof.Rows.callWith_type1 ?_ hst rfl
  rw [hst]
  show wpAny _ _ (spliced ((false, eval (.Call (.Attribute e "values" apos) [] [] cpos) X.env) :: backTo pos (starEach [] X.env))) _ _ s
  refine Calls.spliced_cons ?_
  refine wpAny_Call_method (T := "dict") (id := "dict.values") hbase rfl hline F.plainAttrs_dict F.slot_dict_values F.type_dict_values (thn (he.run pins s σ H _ I h) fun u s1 ⟨x, H1, I1, rx, d, kvs, ex, hd, q⟩ => ?_)
  subst ex
  obtain rfl : u = Value.ref d := rx
  obtain ⟨z, lo, vs, rk, hdd⟩ := (show ObjOk X.prog X.w H1 s1.heap d (.dK kvs) from I1.hok d _ hd)
  obtain ⟨ep, hat⟩ := hdd.dictAt
  have hl : kvs.length = vs.length := Paired.length rk
  refine ⟨hdd.typeIs, hdd.mapOf.noDict, ?_⟩
  show wpAny _ _ (callWith cpos (.builtin "dict.values") [.ref d] [] []) _ X.xe s1
  refine method_meetsIn F.slot_dict_values F.entry_dict_values rfl (PySem.evalArgs_none ⟨rfl, hdd.typeIs, F.args_dict_values_1 _, _, meets_dict_values (mixKind X.prog X.w) d lo, ⟨vs, hdd⟩, ?_⟩)
  refine Calls.spliced_nil ?_
  have kp : ∀ b o, s1.heap.get? b = some o → (s1.heap.push { cls := .type "dict_values", data := .fields #[.ref d] }).get? b = some o := fun b o e => Heap.get?_push_of_some _ e
  have I2 : Inv X pins σ H1 { s1 with heap := s1.heap.push { cls := .type "dict_values", data := .fields #[.ref d] } } := I1.kept (t' := s1.toks) kp
  refine PySem.W.kdl_call (s := { s1 with heap := s1.heap.push { cls := .type "dict_values", data := .fields #[.ref d] } }) (PySem.W.kdl_values (knd := mixKind X.prog X.w) (kvs := vs) (ep := ep) (r := s1.heap.objs.size) (d := d)) (I2.ok.hd hc) ⟨⟨_, Heap.get?_push_size _ rfl, rfl, rfl⟩, hat.push _⟩ (by rw [← hl]; exact z) fun h' tk acc' c' hkeep hS hacc => ?_
  refine ⟨.ref _, upd H1 _ (.lst (kvs.map fun kv => kv.2)), I2.laid hkeep (Nat.le_refl _) (show ObjOk X.prog X.w _ _ _ (.lst (kvs.map fun kv => kv.2)) from ⟨?_, acc'.toList, c', ?_, ?_⟩), rfl, q _ (I2.hok.fresh (Nat.le_refl _))⟩
  · rw [List.length_map]; exact z
  · have el : acc'.toList.length = acc'.size := by simp
    refine vals_of_at (by rw [List.length_map, el, hacc.1, hl]) fun j x w h1 h2 => ?_
    obtain ⟨k, hky⟩ := hacc.2 j w (by rw [← Array.getElem?_toList]; exact h2)
    exact kv_at rk h1 hky
  · rw [Array.toArray_toList]; exact hS
end Bs
namespace Bs
open PySem PySem.Spec PyProof.Rows L2
variable {P : Program} {w : World} {K : PySem.W.Frag} {mg : Str → Option Value} {base : Heap}
section
variable {a : Addr} {i l j : Int} {H : Hp} {p : Addr}
abbrev penL (a : Addr) (i l : Int) : List (Key × V) := [(Sum.inr "script", .ref a), (Sum.inr "at", .int i), (Sum.inr "left", .int l)]
theorem ink {x y : Str} (h : ¬ x = y) : ¬ ((Sum.inr x : Key) = Sum.inr y) := fun q => h (Sum.inr.inj q)
theorem pen_gs : valV (penL a i l) (Sum.inr "script") = some (.ref a) := valV_pos rfl
theorem pen_ga : valV (penL a i l) (Sum.inr "at") = some (.int i) := by rw [valV_neg (ink script_ne.1), valV_pos rfl]
theorem pen_gl : valV (penL a i l) (Sum.inr "left") = some (.int l) := by rw [valV_neg (ink script_ne.2.1), valV_neg (ink script_ne.2.2.1), valV_pos rfl]
theorem pen_pa : putK (penL a i l) (Sum.inr "at") (.int j) = penL a j l := by
  simp [putK, script_ne]
theorem pen_pl : putK (penL a i l) (Sum.inr "left") (.int j) = penL a i j := by
  simp [putK, script_ne]
theorem pen_s (h : H p = some (penD a i l)) : DGet H p (.str "script") (some (.ref a)) := by rw [← pen_gs (a := a) (i := i) (l := l)]; exact DGet.k (k := Sum.inr "script") h
theorem pen_a (h : H p = some (penD a i l)) : DGet H p (.str "at") (some (.int i)) := by rw [← pen_ga (a := a) (i := i) (l := l)]; exact DGet.k (k := Sum.inr "at") h
theorem pen_l (h : H p = some (penD a i l)) : DGet H p (.str "left") (some (.int l)) := by rw [← pen_gl (a := a) (i := i) (l := l)]; exact DGet.k (k := Sum.inr "left") h
theorem pen_ua (h : H p = some (penD a i l)) : DPut H p (.str "at") (.int j) (upd H p (penD a j l)) := by
  have z := DPut.k (k := Sum.inr "at") (v := .int j) h (show 3 < sizeLine by decide)
  rw [pen_pa] at z
  exact z
theorem pen_ul (h : H p = some (penD a i l)) : DPut H p (.str "left") (.int j) (upd H p (penD a i j)) := by
  have z := DPut.k (k := Sum.inr "left") (v := .int j) h (show 3 < sizeLine by decide)
  rw [pen_pl] at z
  exact z
end
end Bs
namespace Pf
open PySem PySem.Spec PyProof.Rows L2 Bs
variable {P : Program} {w : World} {K : PySem.W.Frag} {mg : Str → Option Value} {base : Heap}
/-! ### the pen -/
def spPen (K : PySem.W.Frag) : Sp := fun vs H Q _ => ∃ (a : Addr) (ns : List Int), vs = [.ref a] ∧ Fz K H a (ns.map V.int) ∧ ns.length ≤ 63 ∧ ∀ (p : Addr) (H' : Hp), H p = none → Same H H' → Pen K H' p 0 → Q (.ref p) H'
abbrev N_Lpen : List Str := ["_law_script"]
theorem sc_Lpen : FnScope N_Lpen ["_law_script"] (defScope s_Lpen) := ⟨rfl, rfl, rfl, by decide +kernel, rfl, by decide +kernel, by decide +kernel⟩
theorem c_Lpen (T : Tx K mg) : C8.Cal P w K mg base 1 "_law_pen" (spPen K) [] := by
  obtain ⟨fd, F⟩ := f_Lpen T
  refine mkCal F (g_law_pen T) (F.bindsN fun _ _ _ _ _ _ us hl => match us, hl with | [_], _ => rfl) .nil sc_Lpen (fun vs H Q E h => ?_) (fun cdv A outer s H vs Q E hr h => ?_)
  · obtain ⟨a, ns, rfl, _⟩ := h
    rfl
  obtain ⟨a, ns, rfl, hS, hl, q⟩ := h
  refine ⟨_, (pss_one (ps_ret (pe_disp (pps_cons pe_str (pv 0) (pps_cons pe_str pe_int (pps_cons pe_str pe_int pps_nil))) (by rfl) (by rfl) (fun z => by cases z) (by decide)))), ?_⟩
  intro p hp
  refine ⟨_, rfl, upd_same, penL a 0 0, rfl, (by show 3 ≤ 15; decide), ?_⟩
  have e : mergeK [] (penL a 0 0) = penL a 0 0 := by simp [mergeK, putK, script_ne]
  rw [e, upd_upd]
  have k : Same H (upd H p (.dK (penL a 0 0))) := Same.new (Same.refl H) hp
  exact q p _ hp k ⟨a, ns, 0, 0, upd_same, hS.to (fun _ _ e => k _ _ e), hl, Int.le_refl 0, Int.le_refl 0, Int.le_refl 0⟩
def spDraw (K : PySem.W.Frag) : Sp := fun vs H Q _ => ∃ (p : Addr) (n : Nat) (m : Int), vs = [.ref p, .int m] ∧ Pen K H p n ∧ n ≤ 1000000 ∧ 0 < m ∧ m < 1000000 ∧
  ∀ (d : Int) (H' : Hp), Kp p H H' → Pen K H' p (n + 1) → 0 ≤ d → d < m → Q (.int d) H'
abbrev N_Ldraw : List Str := ["_law_pen_here", "_law_many", "_law_script", "_law_at", "_law_cell", "_law_number", "_law_digit"]
theorem sc_Ldraw : FnScope N_Ldraw ["_law_pen_here", "_law_many"] (defScope s_Ldraw) := ⟨rfl, rfl, rfl, by decide +kernel, rfl, by decide +kernel, by decide +kernel⟩
theorem c_Ldraw (T : Tx K mg) : C8.Cal P w K mg base 1 "_law_draw" (spDraw K) [] := by
  obtain ⟨fd, F⟩ := f_Ldraw T
  refine mkCal F (g_law_draw T) (F.bindsN fun _ _ _ _ _ _ us hl => match us, hl with | [_, _], _ => rfl) .nil sc_Ldraw (fun vs H Q E h => ?_) (fun cdv A outer s H vs Q E hr h => ?_)
  · obtain ⟨p, n, m, rfl, _⟩ := h
    rfl
  obtain ⟨p, n, m, rfl, hP, hn, hm0, hm1, q⟩ := h
  obtain ⟨a, ns, i, l, hp, hS, h63, hi0, hin, hl0⟩ := id hP
  have hu := hu_of hr
  refine ⟨_, (pss_cons (ps_if (pt_cmpR op_gt (pe_dget hu (pv 0) pe_str (fun _ _ => rfl)) pe_int (nomark _)) (pss_cons (ps_set (i := 6) sc_Ldraw.nd rfl (Or.inl rfl) (pe_op op_modN (pe_callTy call_int1 (by rfl) (z_int T) boot_int (pa_cons (pe_dget hu (pv 0) pe_str (fun _ _ => rfl)) pa_nil)) (pv 1)))
    (pss_cons (ps_dput hu (pv 0) pe_str (pe_op op_fdivN (pe_dget hu (pv 0) pe_str (fun _ _ => rfl)) (pv 1)) rfl)
    (pss_one (ps_ret (pv 6))))) pss_nil)
    (pss_cons (ps_set (i := 2) sc_Ldraw.nd rfl (Or.inl rfl) (pe_dget hu (pv 0) pe_str (fun _ _ => rfl)))
    (pss_cons (ps_set (i := 3) sc_Ldraw.nd rfl (Or.inl rfl) (pe_dget hu (pv 0) pe_str (fun _ _ => rfl)))
    (pss_cons (ps_dput hu (pv 0) pe_str (pe_op op_add (pv 3) pe_int) rfl)
    (pss_cons (ps_set (i := 4) sc_Ldraw.nd rfl (Or.inl rfl) pe_int)
    (C8.pss_cut (ps_if (pt_cmpR op_gt (pe_callB call_len_seq (by rfl) (z_len T) boot_len (pa_cons (pv 2) pa_nil)) pe_int (nomark _)) (pss_one (ps_set (i := 4) sc_Ldraw.nd rfl (Or.inl rfl) (pe_ix ix_list (pv 2) (pe_op op_modN (pe_callTy call_int1 (by rfl) (z_int T) boot_int (pa_cons (pv 3) pa_nil)) (pe_callB call_len_seq (by rfl) (z_len T) boot_len (pa_cons (pv 2) pa_nil))) (fun _ _ => rfl)))) pss_nil)
    (C8.pss_cut (ps_if (PW.pt (pw_and (pt_cmpR op_lt (pv 3) (pe_callB call_len_seq (by rfl) (z_len T) boot_len (pa_cons (pv 2) pa_nil)) (nomark _)) (pw_and1 (pt_cmpR op_ge (pe_callB call_abs (by rfl) (z_abs T) boot_abs (pa_cons (pv 4) pa_nil)) (pe_op op_pow pe_int pe_int) (nomark _))))) (pss_cons (ps_dput hu (pv 0) pe_str (pe_op op_fdivN (pe_callB call_abs (by rfl) (z_abs T) boot_abs (pa_cons (pv 4) pa_nil)) (pv 1)) rfl)
    (pss_one (ps_ret (pe_op op_modN (pe_callTy call_int1 (by rfl) (z_int T) boot_int (pa_cons (pe_callB call_abs (by rfl) (z_abs T) boot_abs (pa_cons (pv 4) pa_nil)) pa_nil)) (pv 1))))) pss_nil)
    (pss_cons (ps_set (i := 5) sc_Ldraw.nd rfl (Or.inl rfl) (pe_op op_add (pe_op op_add (pe_op op_mod (pe_callTy call_int1 (by rfl) (z_int T) boot_int (pa_cons (pv 4) pa_nil)) pe_int) (pe_op op_mul pe_int (pv 3))) pe_int))
    (pss_cons (ps_set (i := 5) sc_Ldraw.nd rfl (Or.inl rfl) (pe_op op_mod (pe_callTy call_int1 (by rfl) (z_int T) boot_int (pa_cons (pe_op op_add (pe_op op_add (pe_op op_mul (pv 5) (pv 5)) (pe_op op_mul pe_int (pv 5))) (pv 3)) pa_nil)) pe_int))
    (pss_cons (ps_set (i := 5) sc_Ldraw.nd rfl (Or.inl rfl) (pe_op op_mod (pe_callTy call_int1 (by rfl) (z_int T) boot_int (pa_cons (pe_op op_add (pe_op op_add (pe_op op_mul (pv 5) (pv 5)) (pe_op op_mul pe_int (pv 5))) (pe_op op_mul pe_int (pv 3))) pa_nil)) pe_int))
    (pss_one (ps_ret (pe_op op_modN (pe_callTy call_int1 (by rfl) (z_int T) boot_int (pa_cons (pe_op op_fdiv (pv 5) pe_int) pa_nil)) (pv 1)))))))))))))), ?_⟩
  have fm : ∀ x : Int, 0 ≤ Int.fmod x m ∧ Int.fmod x m < m := fun x => ⟨Int.fmod_nonneg_of_pos x hm0, Int.fmod_lt_of_pos x hm0⟩
  -- if pen["left"] > 0
  refine ⟨_, rfl, p, _, rfl, pen_l hp, _, _, rfl, rfl, _, rfl, ?_⟩
  refine ite2 (fun c => ?_) (fun c => ?_)
  · refine ⟨_, rfl, p, _, rfl, pen_l hp, .inl ⟨_, rfl, _, rfl, _, _, rfl, rfl, by omega, ?_⟩⟩
    refine ⟨_, rfl, p, _, rfl, pen_l hp, _, rfl, _, _, rfl, rfl, ⟨by omega, by omega⟩, _, rfl, p, _, rfl, pen_ul hp, _, rfl, ?_⟩
    refine q _ _ Kp.upd ⟨a, ns, i, _, upd_same, Fz.kpen hp hS Kp.upd, h63, hi0, by omega, ?_⟩ (fm _).1 (fm _).2
    rw [Int.fdiv_eq_ediv_of_nonneg _ (by omega)]
    exact Int.ediv_nonneg hl0 (by omega)
  · have hS1 : SqL K (upd H p (penD a (i + 1) l)) a (ns.map V.int) := (Fz.kpen hp hS Kp.upd).sq
    have hp1 : upd H p (penD a (i + 1) l) p = some (penD a (i + 1) l) := upd_same
    have hlen : (ns.map V.int).length = ns.length := List.length_map _
    refine ⟨_, rfl, p, _, rfl, pen_s hp, _, rfl, p, _, rfl, pen_a hp, _, rfl, _, _, rfl, rfl, _, rfl, p, _, rfl, pen_ua hp, ?_⟩
    refine ⟨fun σ' H' => ∃ c0 : Int, σ' = [some (.ref p), some (.int m), some (.ref a), some (.int i), some (.int c0), none, none] ∧ H' = upd H p (penD a (i + 1) l), ?_, ?_⟩
    · refine ⟨_, rfl, a, _, rfl, .inl hS1, _, _, rfl, rfl, _, rfl, ?_⟩
      refine ite2 (fun c1 => ?_) (fun c1 => ⟨1009, rfl, rfl⟩)
      have c2 : (0 : Int) < ((ns.map V.int).length : Nat) := of_decide_eq_true c1
      have hi1 := Int.fmod_nonneg_of_pos i c2
      have hi2 := Int.fmod_lt_of_pos i c2
      obtain ⟨v, hv, _⟩ := atI_int (ns := ns) hi1 (by omega)
      exact ⟨_, rfl, _, rfl, .inl ⟨_, rfl, _, rfl, a, _, rfl, .inl hS1, _, _, rfl, rfl, by omega, a, _, _, _, rfl, rfl, hS1, hv, ⟨_, rfl, rfl⟩⟩⟩
    · rintro σ' H' ⟨c0, rfl, rfl⟩
      have hP1 : ∀ j : Int, 0 ≤ j → Pen K (upd H p (penD a (i + 1) j)) p (n + 1) := fun j hj => ⟨a, ns, i + 1, j, upd_same, Fz.kpen hp hS Kp.upd, h63, by omega, by omega, hj⟩
      refine ⟨fun σ' H' => σ' = [some (.ref p), some (.int m), some (.ref a), some (.int i), some (.int c0), none, none] ∧ H' = upd H p (penD a (i + 1) l), ?_, ?_⟩
      · refine ⟨_, rfl, _, rfl, a, _, rfl, .inl hS1, _, _, rfl, rfl, _, rfl, ?_⟩
        refine ite2 (fun _ => ?_) (fun _ => iteF ⟨rfl, rfl⟩)
        refine ⟨_, rfl, _, rfl, _, _, rfl, rfl, ⟨by decide, by decide, by decide⟩, _, _, rfl, rfl, _, rfl, ?_⟩
        refine ite2 (fun _ => ?_) (fun _ => ⟨rfl, rfl⟩)
        have hab : (0 : Int) ≤ (if c0 < 0 then -c0 else c0) := by split <;> omega
        refine ⟨_, rfl, _, rfl, _, rfl, _, _, rfl, rfl, ⟨by omega, by omega⟩, _, rfl, p, _, rfl, pen_ul hp1, _, rfl, _, rfl, .inl ⟨_, rfl, _, rfl, _, _, rfl, rfl, by omega, ?_⟩⟩
        rw [upd_upd]
        refine q _ _ Kp.upd (hP1 _ ?_) (fm _).1 (fm _).2
        rw [Int.fdiv_eq_ediv_of_nonneg _ (by omega)]
        exact Int.ediv_nonneg hab (by omega)
      · rintro σ' H' ⟨rfl, rfl⟩
        refine ⟨_, rfl, .inl ⟨_, rfl, _, _, rfl, rfl, (by show (0 : Int) < 2147483647; decide), _, rfl, _, _, rfl, rfl, .inl ⟨by decide, by decide⟩, _, _, rfl, rfl, _, _, rfl, rfl, ?_⟩⟩
        refine ⟨_, rfl, _, rfl, _, _, rfl, rfl, .inl ⟨by omega, by omega⟩, _, rfl, _, _, rfl, rfl, .inl ⟨by decide, by decide⟩, _, _, rfl, rfl, _, rfl, _, _, rfl, rfl, .inl ⟨_, rfl, _, _, rfl, rfl, (by show (0 : Int) < 2147483629; decide), ?_⟩⟩
        refine ⟨_, rfl, _, rfl, _, _, rfl, rfl, .inl ⟨by omega, by omega⟩, _, rfl, _, _, rfl, rfl, .inl ⟨by decide, by decide⟩, _, _, rfl, rfl, _, rfl, _, _, rfl, rfl, .inl ⟨by decide, by decide⟩, _, _, rfl, rfl, .inl ⟨_, rfl, _, _, rfl, rfl, (by show (0 : Int) < 2147483587; decide), ?_⟩⟩
        refine ⟨_, rfl, _, _, rfl, rfl, ⟨by decide, by decide⟩, .inl ⟨_, rfl, _, rfl, _, _, rfl, rfl, by omega, ?_⟩⟩
        exact q _ _ Kp.upd (hP1 _ hl0) (fm _).1 (fm _).2
end Pf
namespace Bs
open PySem PySem.Spec PyProof.Rows L2 SX
variable {P : Program} {w : World} {K : PySem.W.Frag} {mg : Str → Option Value} {base : Heap}
/-! ### names -/
def ltr (c : Nat) : Prop := 97 ≤ c ∧ c ≤ 122
def sgn (c : Nat) : Prop := ltr c ∨ (48 ≤ c ∧ c ≤ 57) ∨ c = 95
structure Nm (l : List Nat) : Prop where
  pos : 1 ≤ l.length
  len : l.length ≤ 8
  sg : ∀ c ∈ l, sgn c
  hd : ∀ c, l.head? = some c → ltr c
def W1 : List Str := ["table", "key", "dealt", "anyhow", "copied", "zero", "scan", "where", "compute", "equal", "keep"]
def W2 : List Str := ["distinct", "group", "with", "count", "sum", "sort", "own", "split", "broadcast", "gather"]
def W3 : List Str := ["merge", "join", "semi", "anti", "union", "answer", "in", "self"]
def W29 : List Str := W1 ++ W2 ++ W3
def NameOk (x : Str) : Prop := Nm x.cps.toList ∧ x ∉ W29
def L0 : Str := "abcdefghijklmnopqrstuvwxyz"
def L1 : Str := "0123456789_"
theorem L0_c : L0.cps.toList = List.range' 97 26 := by decide +kernel
theorem L1_c : L1.cps.toList = List.range' 48 10 ++ [95] := by decide +kernel
theorem L01_c : (L0 ++ L1).cps.toList = List.range' 97 26 ++ (List.range' 48 10 ++ [95]) := by decide +kernel
theorem L0_len : L0.cps.toList.length = 26 := by decide +kernel
theorem L01_len : (L0 ++ L1).cps.toList.length = 37 := by decide +kernel
theorem L0_ltr {c : Nat} (h : c ∈ L0.cps.toList) : ltr c := by
  rw [L0_c, List.mem_range'_1] at h
  unfold ltr
  omega
theorem L01_sgn {c : Nat} (h : c ∈ (L0 ++ L1).cps.toList) : sgn c := by
  rw [L01_c, List.mem_append, List.mem_append, List.mem_range'_1, List.mem_range'_1, List.mem_singleton] at h
  unfold sgn ltr
  omega
theorem inV_str (x : Str) (ys : List Str) : inV (.str x) (ys.map V.str) = decide (x ∈ ys) := by
  unfold inV
  induction ys with
  | nil => rfl
  | cons y r ih =>
    rw [List.map_cons, List.any_cons, ih]
    have e : eqV (.str y) (.str x) = decide (x = y) := by
      unfold eqV
      by_cases h : x = y
      · subst h; simp
      · have h' : ¬ y = x := fun q => h q.symm
        simp [h, h']
    rw [e]
    simp
theorem flat_str (ys : List Str) : (ys.map V.str).all flatV = true := by
  rw [List.all_map, List.all_eq_true]
  intro x _
  rfl
def spWords : Sp := fun vs H Q _ => vs = [] ∧ ∀ (l : Addr) (H' : Hp), H l = none → Same H H' → H' l = some (.lst (W29.map V.str)) → Q (.ref l) H'
end Bs
namespace Pf
open PySem PySem.Spec PyProof.Rows L2 Bs SX
variable {P : Program} {w : World} {K : PySem.W.Frag} {mg : Str → Option Value} {base : Heap}
abbrev N_Lwords : List Str := ["_law_words_here"]
theorem sc_Lwords : FnScope N_Lwords [] (defScope s_Lwords) := ⟨rfl, rfl, rfl, by decide +kernel, rfl, by decide +kernel, by decide +kernel⟩
theorem c_Lwords (T : Tx K mg) : C8.Cal P w K mg base 1 "_law_words" spWords [] := by
  obtain ⟨fd, F⟩ := f_Lwords T
  refine mkCal F (g_law_words T) (F.bindsN fun _ _ _ _ _ _ us hl => match us, hl with | [], _ => rfl) .nil sc_Lwords (fun vs H Q E h => ?_) (fun cdv A outer s H vs Q E hr h => ?_)
  · obtain ⟨rfl, _⟩ := h
    rfl
  obtain ⟨rfl, q⟩ := h
  refine ⟨_, (pss_cons (ps_set (i := 0) sc_Lwords.nd rfl (Or.inl rfl) (pe_lst (pa_cons pe_str (pa_cons pe_str (pa_cons pe_str (pa_cons pe_str (pa_cons pe_str (pa_cons pe_str (pa_cons pe_str (pa_cons pe_str (pa_cons pe_str (pa_cons pe_str (pa_cons pe_str pa_nil)))))))))))))
    (pss_cons (ps_set (i := 0) sc_Lwords.nd rfl (Or.inl rfl) (pe_op op_cat (pv 0) (pe_lst (pa_cons pe_str (pa_cons pe_str (pa_cons pe_str (pa_cons pe_str (pa_cons pe_str (pa_cons pe_str (pa_cons pe_str (pa_cons pe_str (pa_cons pe_str (pa_cons pe_str pa_nil)))))))))))))
    (pss_one (ps_ret (pe_op op_cat (pv 0) (pe_lst (pa_cons pe_str (pa_cons pe_str (pa_cons pe_str (pa_cons pe_str (pa_cons pe_str (pa_cons pe_str (pa_cons pe_str (pa_cons pe_str pa_nil)))))))))))))), ?_⟩
  refine ⟨(by show 11 ≤ sizeLine; decide), fun l1 h1 => ?_⟩
  refine ⟨_, rfl, (by show 10 ≤ sizeLine; decide), fun l2 h2 => ?_⟩
  refine ⟨_, _, _, _, rfl, rfl, (by rw [upd_ne (ne_of_none (H := upd H l1 _) upd_same h2)]; exact upd_same), upd_same, (by show 21 ≤ sizeLine; decide), fun l3 h3 => ?_⟩
  refine ⟨_, rfl, (by show 8 ≤ sizeLine; decide), fun l4 h4 => ?_⟩
  refine ⟨_, _, _, _, rfl, rfl, (by rw [upd_ne (ne_of_none (H := upd _ l3 _) upd_same h4)]; exact upd_same), upd_same, (by show 29 ≤ sizeLine; decide), fun l5 h5 => ?_⟩
  refine q l5 _ ?_ (Same.new (Same.new (Same.new (Same.new (Same.new (Same.refl H) h1) h2) h3) h4) h5) upd_same
  exact (Same.new (Same.new (Same.new (Same.new (Same.refl H) h1) h2) h3) h4).free h5
end Pf
namespace Bs
open PySem PySem.Spec PyProof.Rows L2 SX
variable {P : Program} {w : World} {K : PySem.W.Frag} {mg : Str → Option Value} {base : Heap}
def spNames (K : PySem.W.Frag) : Sp := fun vs H Q _ => ∃ (p : Addr) (n m : Nat), vs = [.ref p, .int m] ∧ Pen K H p n ∧ n ≤ 900000 ∧ m ≤ 12 ∧
  ∀ (l : Addr) (ws : List Str) (H' : Hp), Kp p H H' → H l = none → Pen K H' p (n + 15) → H' l = some (.lst (ws.map V.str)) → ws.length = m → (∀ x ∈ ws, NameOk x) → ws.Nodup → Q (.ref l) H'
theorem joinL_nil : ∀ ys : List (List Nat), TL.joinL [] ys = ys.flatten
  | [] => rfl
  | [p] => by simp [TL.joinL]
  | p :: q :: r => by
    rw [TL.joinL, joinL_nil (q :: r)]
    simp
theorem ones {ys : List (List Nat)} (h : ∀ y ∈ ys, ∃ c, y = [c] ∧ sgn c) : ys.flatten.length = ys.length ∧ ∀ c ∈ ys.flatten, sgn c := by
  induction ys with
  | nil => exact ⟨rfl, fun c hc => by cases hc⟩
  | cons y r ih =>
    obtain ⟨c, rfl, hc⟩ := h y List.mem_cons_self
    obtain ⟨i1, i2⟩ := ih fun y hy => h y (List.mem_cons_of_mem _ hy)
    rw [List.flatten_cons]
    refine ⟨by simp [i1], fun d hd => ?_⟩
    rcases List.mem_append.mp hd with hd | hd
    · rw [List.mem_singleton.mp hd]; exact hc
    · exact i2 d hd
theorem sum_ones {ys : List (List Nat)} (h : ∀ y ∈ ys, ∃ c, y = [c] ∧ sgn c) : ((ys.map S).map (fun x => x.length)).sum = ys.length := by
  induction ys with
  | nil => rfl
  | cons y r ih =>
    obtain ⟨c, rfl, hc⟩ := h y List.mem_cons_self
    rw [List.map_cons, List.map_cons, List.sum_cons, ih fun y hy => h y (List.mem_cons_of_mem _ hy), S_len, List.length_cons, List.length_cons]
    simp
    omega
theorem nodup_sub {α : Type} [DecidableEq α] : ∀ {l m : List α}, l.Nodup → (∀ x ∈ l, x ∈ m) → l.length ≤ m.length
  | [], _, _, _ => Nat.zero_le _
  | x :: r, m, h, s => by
    have hx : x ∈ m := s x List.mem_cons_self
    obtain ⟨h1, h2⟩ := List.nodup_cons.mp h
    have ih := nodup_sub (m := m.erase x) h2 fun y hy => by
      have ne : y ≠ x := fun q => h1 (by rw [← q]; exact hy)
      exact (List.mem_erase_of_ne ne).mpr (s y (List.mem_cons_of_mem _ hy))
    rw [List.length_erase_of_mem hx] at ih
    have : 0 < m.length := List.length_pos_of_mem hx
    rw [List.length_cons]
    omega
/-- the word that is tried at turn t for the name i -/
def cand (i t : Nat) : Str := S ([119] ++ TL.numL i ++ [95] ++ TL.numL t)
theorem cand_inj {i t u : Nat} (h : cand i t = cand i u) : t = u := by
  have e := S_inj h
  exact TL.numL_inj (List.append_cancel_left e)
theorem cand_nm {i t : Nat} (hi : i < 100) (ht : t < 100) : Nm (cand i t).cps.toList := by
  have e : (cand i t).cps.toList = [119] ++ TL.numL i ++ [95] ++ TL.numL t := rfl
  have l1 : (TL.numL i).length ≤ 2 := TL.numL_len (by decide) (by omega)
  have l2 : (TL.numL t).length ≤ 2 := TL.numL_len (by decide) (by omega)
  rw [e]
  refine ⟨by simp, by simp only [List.length_append, List.length_singleton]; omega, fun c hc => ?_, fun c hc => ?_⟩
  · rw [List.mem_append, List.mem_append, List.mem_append, List.mem_singleton, List.mem_singleton] at hc
    have d1 := TL.numL_digits i c
    have d2 := TL.numL_digits t c
    unfold sgn ltr
    rcases hc with ((h | h) | h) | h
    · omega
    · have := d1 h; omega
    · omega
    · have := d2 h; omega
  · have e2 : c = 119 := by
      have e3 : ([119] ++ TL.numL i ++ [95] ++ TL.numL t).head? = some 119 := rfl
      rw [e3] at hc
      exact (Option.some.inj hc).symm
    unfold ltr
    omega
theorem cand_few {ws : List Str} {i n : Nat} (h : ∀ t, t < n → cand i t ∈ ws) : n ≤ ws.length := by
  have e : ((List.range n).map (cand i)).length = n := by rw [List.length_map, List.length_range]
  rw [← e]
  refine nodup_sub ?_ fun x hx => ?_
  · refine List.Pairwise.map _ (fun a b hab q => hab (cand_inj q)) (List.nodup_range)
  · obtain ⟨t, ht, rfl⟩ := List.mem_map.mp hx
    exact h t (List.mem_range.mp ht)
theorem str_nat (n : Nat) : Str.ofString (toString ((n : Nat) : Int)) = S (TL.numL n) := num_S n
theorem cand_eq (i t : Nat) : ("w" : Str) ++ Str.ofString (toString ((i : Nat) : Int)) ++ ("_" : Str) ++ Str.ofString (toString ((t : Nat) : Int)) = cand i t := by
  have e1 : ("w" : Str) = S [119] := by decide +kernel
  have e2 : ("_" : Str) = S [95] := by decide +kernel
  rw [e1, e2, str_nat, str_nat, S_cat, S_cat, S_cat]
  rfl
/-! what a reading asks grows with what is wanted -/
def MonT (t : TT) : Prop := ∀ σ H (Q Q' : Bool → Hp → Prop), (∀ b H1, Q b H1 → Q' b H1) → t σ H Q → t σ H Q'
def MonE (t : TE) : Prop := ∀ σ H (Q Q' : VK), (∀ v H1, Q v H1 → Q' v H1) → t σ H Q → t σ H Q'
def MonR (r : R2) : Prop := ∀ x y H (Q Q' : VK), (∀ v H1, Q v H1 → Q' v H1) → r x y H Q → r x y H Q'
theorem MonT.or {t u : TT} (a : MonT t) (b : MonT u) : MonT (tOr t u) := fun σ H Q Q' h => a σ H _ _ fun c H1 => by
  cases c with
  | true => exact fun q => h _ _ q
  | false => exact fun q => b σ H1 _ _ h q
theorem MonT.and {t u : TT} (a : MonT t) (b : MonT u) : MonT (tAnd t u) := fun σ H Q Q' h => a σ H _ _ fun c H1 => by
  cases c with
  | true => exact fun q => b σ H1 _ _ h q
  | false => exact fun q => h _ _ q
theorem MonE.test {t : TE} (a : MonE t) : MonT (tTest t) := fun σ H Q Q' h => a σ H _ _ fun v H1 ⟨k, e, q⟩ => ⟨k, e, h _ _ q⟩
theorem MonE.op {r : R2} {t u : TE} (hr : MonR r) (a : MonE t) (b : MonE u) : MonE (tOp r t u) := fun σ H Q Q' h => a σ H _ _ fun x H1 => b σ H1 _ _ fun y H2 => hr x y H2 _ _ h
theorem MonE.var {i : Nat} : MonE (tVar i) := fun σ H Q Q' h ⟨v, e, q⟩ => ⟨v, e, h _ _ q⟩
theorem MonE.c {v : V} : MonE (tC v) := fun σ H Q Q' h q => h _ _ q
theorem MonR.in_ {b : Bool} : MonR (rIn K b) := fun x y H Q Q' h ⟨p, xs, e, s, f1, f2, q⟩ => ⟨p, xs, e, s, f1, f2, h _ _ q⟩
theorem MonE.words : MonE (fun _ H Q => spWords [] H Q C8.E0) := fun σ H Q Q' h ⟨e, q⟩ => ⟨e, fun l H' a b c => h _ _ (q l H' a b c)⟩
theorem nm_mid {bl : List Nat} {k c : Nat} (h : Nm bl) (hk : k < bl.length) (hc : ltr c) : Nm (bl.take k ++ [c] ++ bl.drop (k + 1)) := by
  refine ⟨by simp only [List.length_append, List.length_take, List.length_drop, List.length_singleton]; omega, ?_, fun d hd => ?_, fun d hd => ?_⟩
  · simp only [List.length_append, List.length_take, List.length_drop, List.length_singleton]
    have := h.len
    omega
  · rw [List.mem_append, List.mem_append, List.mem_singleton] at hd
    rcases hd with (hd | hd) | hd
    · exact h.sg d (List.mem_of_mem_take hd)
    · rw [hd]; exact .inl hc
    · exact h.sg d (List.mem_of_mem_drop hd)
  · cases k with
    | zero =>
      have e : (bl.take 0 ++ [c] ++ bl.drop (0 + 1)).head? = some c := rfl
      rw [e] at hd
      rw [← Option.some.inj hd]; exact hc
    | succ k =>
      cases bl with
      | nil => exact absurd hk (by simp)
      | cons b r =>
        have e : ((b :: r).take (k + 1) ++ [c] ++ (b :: r).drop (k + 1 + 1)).head? = some b := rfl
        rw [e] at hd
        exact h.hd d hd
def qq : List Nat := [113, 49, 95, 120, 113, 49, 95, 120]
theorem qq_eq : (⟨(List.replicate (2 : Int).toNat ("q1_x" : Str).cps.toList).flatten.toArray⟩ : Str) = S qq := by decide +kernel
theorem nm_pre {bl : List Nat} {j : Nat} (h : Nm bl) (hj : j < 8) : Nm ((bl ++ qq).take (j + 1)) := by
  have hl := h.pos
  have l8 : (bl ++ qq).length = bl.length + 8 := by rw [List.length_append]; rfl
  refine ⟨?_, ?_, fun d hd => ?_, fun d hd => ?_⟩
  · rw [List.length_take, l8]; omega
  · rw [List.length_take, l8]; omega
  · rcases List.mem_append.mp (List.mem_of_mem_take hd) with q | q
    · exact h.sg d q
    · unfold qq at q
      simp only [List.mem_cons, List.mem_nil_iff, or_false] at q
      unfold sgn ltr
      omega
  · cases bl with
    | nil => exact absurd hl (by simp)
    | cons b r =>
      have e : ((b :: r ++ qq).take (j + 1)).head? = some b := rfl
      rw [e] at hd
      exact h.hd d hd
theorem nm_sig {bl : List Nat} {k c : Nat} (h : Nm bl) (hk : k < bl.length) (hc : ltr c) : Nm ([c] ++ bl.take k) := by
  refine ⟨by simp, ?_, fun d hd => ?_, fun d hd => ?_⟩
  · simp only [List.length_append, List.length_take, List.length_singleton]
    have := h.len
    omega
  · rw [List.mem_append, List.mem_singleton] at hd
    rcases hd with hd | hd
    · rw [hd]; exact .inl hc
    · exact h.sg d (List.mem_of_mem_take hd)
  · have e : ([c] ++ bl.take k).head? = some c := rfl
    rw [e] at hd
    rw [← Option.some.inj hd]; exact hc
theorem log_small {i : Nat} (h : i < 1000) : ((i : Nat) : Int).natAbs.log2 < 1920 := by
  rw [Int.natAbs_natCast]
  exact Nat.lt_of_le_of_lt (Nat.log2_le_self _) (by omega)
theorem len_nat {i : Nat} (h : i < 100) : (Str.ofString (toString ((i : Nat) : Int))).length ≤ 2 := by
  rw [str_nat, S_len]
  exact TL.numL_len (by decide) (by omega)
end Bs
namespace Pf
open PySem PySem.Spec PyProof.Rows L2 Bs SX
variable {P : Program} {w : World} {K : PySem.W.Frag} {mg : Str → Option Value} {base : Heap}
abbrev N_Lnames : List Str := ["_law_pen_here", "_law_many", "_law_letters", "_law_signs", "_law_base", "_law_at", "_law_first", "_law_step", "_law_way", "_law_found", "_law_k", "_law_sign", "_law_name", "_law_turn"]
theorem sc_Lnames : FnScope N_Lnames ["_law_pen_here", "_law_many"] (defScope s_Lnames) := ⟨rfl, rfl, rfl, by decide +kernel, rfl, by decide +kernel, by decide +kernel⟩
theorem c_Lnames (T : Tx K mg) : C8.Cal P w K mg base 3 "_law_names" (spNames K) [] := by
  obtain ⟨fd, F⟩ := f_Lnames T
  have c_Ldraw := c_Ldraw (P := P) (w := w) (base := base) T
  have c_Lwords := c_Lwords (P := P) (w := w) (base := base) T
  refine mkCal F (g_law_names T) (F.bindsN fun _ _ _ _ _ _ us hl => match us, hl with | [_, _], _ => rfl) .nil sc_Lnames (fun vs H Q E h => ?_) (fun cdv A outer s H vs Q E hr h => ?_)
  · obtain ⟨p, n, m, rfl, _⟩ := h
    rfl
  obtain ⟨p, n, m, rfl, hP, hn, hm, q⟩ := h
  have hu := hu_of hr
  refine ⟨_, (pss_cons (ps_set (i := 2) sc_Lnames.nd rfl (Or.inl rfl) pe_str)
    (pss_cons (ps_set (i := 3) sc_Lnames.nd rfl (Or.inr rfl) (pe_op op_add_str (pv 2) pe_str))
    (pss_cons (ps_set (i := 4) sc_Lnames.nd rfl (Or.inl rfl) (pe_op op_add_str (pe_ix ix_str (pv 2) (C8.pe_c c_Ldraw hr (by first | decide | omega) rfl (pa_cons (pv 0) (pa_cons pe_int pa_nil))) (fun _ _ => rfl)) (pe_join pe_str (pe_lc (own := [("_law_k", 10)]) rfl sc_Lnames.nd (pi_range1 (by rfl) (z_range T) (pa_cons (C8.pe_c c_Ldraw hr (by first | decide | omega) rfl (pa_cons (pv 0) (pa_cons pe_int pa_nil))) pa_nil)) (blkOk_by (N := N_Lnames) (sc := defScope s_Lnames) (by decide +kernel)) (fun _ _ _ _ _ => (pg_name (i := 10) sc_Lnames.nd rfl (Or.inl rfl))) (fun _ _ _ _ _ => pts_nil) (fun _ _ _ _ _ => (pe_ix ix_str (pv 3) (C8.pe_c c_Ldraw hr (by first | decide | omega) rfl (pa_cons (pv 0) (pa_cons pe_int pa_nil))) (fun _ _ => rfl)))))))
    (pss_cons (ps_set (i := 5) sc_Lnames.nd rfl (Or.inl rfl) (C8.pe_c c_Ldraw hr (by first | decide | omega) rfl (pa_cons (pv 0) (pa_cons (pe_callB call_len_str (by rfl) (z_len T) boot_len (pa_cons (pv 4) pa_nil)) pa_nil))))
    (pss_cons (ps_set (i := 6) sc_Lnames.nd rfl (Or.inl rfl) (C8.pe_c c_Ldraw hr (by first | decide | omega) rfl (pa_cons (pv 0) (pa_cons pe_int pa_nil))))
    (pss_cons (ps_set (i := 7) sc_Lnames.nd rfl (Or.inl rfl) (pe_ix (ix_listK (K := K) rfl) (pe_lst (pa_cons pe_int (pa_cons pe_int (pa_cons pe_int (pa_cons pe_int (pa_cons pe_int (pa_cons pe_int (pa_cons pe_int (pa_cons pe_int pa_nil))))))))) (C8.pe_c c_Ldraw hr (by first | decide | omega) rfl (pa_cons (pv 0) (pa_cons pe_int pa_nil))) (fun _ _ => rfl)))
    (pss_cons (ps_set (i := 8) sc_Lnames.nd rfl (Or.inl rfl) (C8.pe_c c_Ldraw hr (by first | decide | omega) rfl (pa_cons (pv 0) (pa_cons pe_int pa_nil))))
    (pss_cons (ps_set (i := 9) sc_Lnames.nd rfl (Or.inl rfl) (pe_lst pa_nil))
    (pss_cons (ps_for PassesOwn.never rfl (pi_range1 (by rfl) (z_range T) (pa_cons (pv 1) pa_nil)) (pg_name (i := 10) sc_Lnames.nd rfl (Or.inl rfl)) (pss_cons (ps_set (i := 11) sc_Lnames.nd rfl (Or.inl rfl) (pe_ix ix_str (pv 2) (pe_op op_mod (pe_callTy call_int1 (by rfl) (z_int T) boot_int (pa_cons (pe_op op_add (pv 6) (pe_op op_mul (pv 7) (pv 10))) pa_nil)) pe_int) (fun _ _ => rfl)))
    (pss_cons (ps_set (i := 12) sc_Lnames.nd rfl (Or.inl rfl) (pe_op op_add_str (pe_op op_add_str (pe_slice C8.sl_txt (pv 4) po_none (po_some (pv 5))) (pv 11)) (pe_slice C8.sl_txt (pv 4) (po_some (pe_op op_add (pv 5) pe_int)) po_none)))
    (C8.pss_cut (ps_if (pt_cmpR op_eq (pv 8) pe_int (nomark _)) (pss_one (ps_set (i := 12) sc_Lnames.nd rfl (Or.inl rfl) (pe_slice C8.sl_txt (pe_op op_add_str (pv 4) (pe_op op_rep_str pe_str pe_int)) po_none (po_some (pe_op op_add (pe_op op_mod (pe_callTy call_int1 (by rfl) (z_int T) boot_int (pa_cons (pv 10) pa_nil)) pe_int) pe_int))))) pss_nil)
    (C8.pss_cut (ps_if (pt_cmpR op_eq (pv 8) pe_int (nomark _)) (pss_one (ps_set (i := 12) sc_Lnames.nd rfl (Or.inl rfl) (pe_op op_add_str (pv 11) (pe_slice C8.sl_txt (pv 4) po_none (po_some (pe_op op_modN (pe_callTy call_int1 (by rfl) (z_int T) boot_int (pa_cons (pv 10) pa_nil)) (pe_callB call_len_str (by rfl) (z_len T) boot_len (pa_cons (pv 4) pa_nil)))))))) pss_nil)
    (pss_cons (ps_set (i := 13) sc_Lnames.nd rfl (Or.inl rfl) pe_int)
    (pss_cons (ps_while PassesOwn.never (PW.pt (pw_or (pt_cmpR (op_in_seqK (K := K) rfl) (pv 12) (pv 9) (by rfl)) (pw_or1 (pt_cmpR (op_in_seqK (K := K) rfl) (pv 12) (pe_c0 c_Lwords hr (by first | decide | omega) rfl) (by rfl))))) (pss_cons (ps_set (i := 12) sc_Lnames.nd rfl (Or.inl rfl) (pe_op op_add_str (pe_op op_add_str (pe_op op_add_str pe_str (pe_callTy call_str_int (by rfl) (z_str T) boot_str (pa_cons (pv 10) pa_nil))) pe_str) (pe_callTy call_str_int (by rfl) (z_str T) boot_str (pa_cons (pv 13) pa_nil))))
    (pss_one (ps_set (i := 13) sc_Lnames.nd rfl (Or.inl rfl) (pe_op op_add (pv 13) pe_int)))))
    (pss_one (ps_expr (pe_bm PySem.F.plainAttrs_list PySem.F.slot_list_append PySem.F.type_list_append mt_append (pv 9) (pa_cons (pv 12) pa_nil)))))))))))
    (pss_one (ps_ret (pv 9)))))))))))), ?_⟩
  refine ⟨_, rfl, L0, L1, rfl, rfl, by decide +kernel, ?_⟩
  refine ⟨_, rfl, _, rfl, p, n, 26, rfl, hP, by omega, by decide, by decide, fun d1 H1 k1 P1 a1 b1 => ?_⟩
  obtain ⟨c1, hc1, m1, _⟩ := atI_of (xs := L0.cps.toList) a1 (by rw [L0_len]; exact b1)
  refine ⟨L0, d1, c1, rfl, rfl, by decide +kernel, hc1, ⟨_, rfl⟩, ?_⟩
  refine ⟨_, rfl, p, n + 1, 8, rfl, P1, by omega, by decide, by decide, fun d2 H2 k2 P2 a2 b2 => ⟨d2, rfl, by omega, by omega, fun D hD => ?_⟩⟩
  have hDp := P2.ne hD
  have hpD := P2.there
  have k12 := k1.trans k2
  have hD0 := k12.free hD hpD
  refine lc_range (lo := 0) (n := d2.toNat) (fun i H' => ∃ ys : List (List Nat), H' D = some (.lst ((ys.map S).map V.str)) ∧ ys.length = i ∧ (∀ y ∈ ys, ∃ c, y = [c] ∧ sgn c) ∧ Kp p H H' ∧ Pen K H' p (n + 2 + i))
    ⟨[], upd_same, rfl, (fun y hy => by cases hy), k12.loc hD0, (P2.upd hD)⟩ ?_ ?_
  · rintro i H' hi ⟨ys, hL, rfl, hy, kp, hP'⟩
    refine ⟨rfl, ?_⟩
    unfold tYes
    refine iteT ?_
    refine ⟨_, rfl, _, rfl, p, _, 37, rfl, hP', by omega, by decide, by decide, fun d3 H3 k3 P3 a3 b3 => ?_⟩
    obtain ⟨c3, hc3, m3, _⟩ := atI_of (xs := (L0 ++ L1).cps.toList) a3 (by rw [L01_len]; exact b3)
    have hL3 := k3 _ _ hL hDp
    refine ⟨L0 ++ L1, d3, c3, rfl, rfl, by decide +kernel, hc3, _, hL3, ?_, ys ++ [[c3]], ?_, ?_, ?_, ?_, ?_⟩
    · rw [List.length_map, List.length_map]
      have : sizeLine = 16777216 := rfl
      omega
    · rw [upd_same, List.map_append, List.map_append]
      rfl
    · rw [List.length_append]; rfl
    · intro y h
      rcases List.mem_append.mp h with h | h
      · exact hy y h
      · exact ⟨c3, List.mem_singleton.mp h, L01_sgn m3⟩
    · exact (kp.trans k3).loc hD0
    · exact P3.put hL3
  rintro H3 ⟨ys, hL, hlen, hy, kp, hP3⟩
  obtain ⟨o1, o2⟩ := ones hy
  have e0 : ("" : Str) = S [] := by decide +kernel
  have ej : Txt.join ("" : Str) (ys.map S) = S ys.flatten := by rw [e0, join_S, joinL_nil]
  refine ⟨"", D, ys.map S, rfl, rfl, .inl (SqL.of hL), ?_, ?_⟩
  · have e1 : (("" : Str)).length = 0 := by decide +kernel
    rw [sum_ones hy, List.length_map, e1]
    omega
  refine ⟨⟨#[c1]⟩, Txt.join ("" : Str) (ys.map S), rfl, rfl, ?_, ?_⟩
  · have : sizeLine = 16777216 := rfl
    have e1 : (⟨#[c1]⟩ : Str).length = 1 := rfl
    rw [ej, e1, S_len, o1]
    omega
  have eB : (⟨#[c1]⟩ : Str) ++ Txt.join ("" : Str) (ys.map S) = S (c1 :: ys.flatten) := by
    rw [ej]
    exact S_cat [c1] _
  have nB : Nm (c1 :: ys.flatten) := ⟨by simp, by rw [List.length_cons, o1]; omega, fun c hc => by
    rcases List.mem_cons.mp hc with h | h
    · rw [h]; exact .inl (L0_ltr m1)
    · exact o2 c h, fun c hc => by
    rw [List.head?_cons] at hc
    rw [← Option.some.inj hc]; exact L0_ltr m1⟩
  rw [eB]
  generalize c1 :: ys.flatten = bl at nB
  have hP4 := hP3.mono (show n + 2 + d2.toNat ≤ n + 10 by omega)
  clear hy o1 o2 ej eB hL hP3 hc1 m1
  have sl : sizeLine = 16777216 := rfl
  refine ⟨_, rfl, _, rfl, S bl, rfl, by rw [S_len]; have := nB.len; omega, p, n + 10, ((S bl).length : Nat), rfl, hP4, by omega, by rw [S_len]; have := nB.pos; omega, by rw [S_len]; have := nB.len; omega, fun at_ H4 k4 P4 a4 b4 => ?_⟩
  rw [S_len] at b4
  refine ⟨_, rfl, p, _, 26, rfl, P4, by omega, by decide, by decide, fun fi H5 k5 P5 a5 b5 => ?_⟩
  refine ⟨by show 8 ≤ sizeLine; decide, fun l hl => ?_⟩
  refine ⟨_, rfl, p, _, 8, rfl, P5.upd hl, by omega, by decide, by decide, fun d6 H6 k6 P6 a6 b6 => ?_⟩
  have hlp := P5.ne hl
  obtain ⟨st, hst, mst⟩ := atI_int (ns := [1, 3, 5, 7, 9, 11, 15, 17]) a6 b6
  have bst : 0 ≤ st ∧ st ≤ 17 := by
    simp only [List.mem_cons, List.mem_nil_iff, or_false] at mst
    omega
  refine ⟨l, ([1, 3, 5, 7, 9, 11, 15, 17] : List Int).map V.int, d6, .int st, rfl, rfl, SqL.of (k6 l _ upd_same hlp), hst, ?_⟩
  refine ⟨_, rfl, p, _, 3, rfl, P6, by omega, by decide, by decide, fun wy H7 k7 P7 a7 b7 => ?_⟩
  have k37 : Kp p H H7 := ((((kp.trans k4).trans k5).new hl).trans k6).trans k7
  refine ⟨Nat.zero_le _, fun f hf => ?_⟩
  have hf0 := k37.free hf P7.there
  have hfp := P7.ne hf
  have P7' : Pen K H7 p (n + 14) := P7.mono (by omega)
  refine ⟨_, rfl, (m : Int), rfl, by omega, by omega, ?_⟩
  refine for_range (lo := 0) (n := ((m : Nat) : Int).toNat) (fun i σ H' => ∃ (ws : List Str) (k c s t : Option V), σ = [some (.ref p), some (.int m), some (.str L0), some (.str (L0 ++ L1)), some (.str (S bl)), some (.int at_), some (.int fi), some (.int st), some (.int wy), some (.ref f), k, c, s, t] ∧
      H' f = some (.lst (ws.map V.str)) ∧ ws.length = i ∧ (∀ x ∈ ws, NameOk x) ∧ ws.Nodup ∧ Kp p H H' ∧ Pen K H' p (n + 14))
    ⟨[], none, none, none, none, rfl, upd_same, rfl, (fun x hx => by cases hx), List.nodup_nil, k37.loc hf0, P7'.upd hf⟩ ?_ ?_
  · rintro i σ H' hi ⟨ws, k, c, s, t, rfl, hL, rfl, hok, hnd, kp', hP'⟩
    have hi12 : ws.length < 12 := by omega
    have lb := nB.len
    have lp := nB.pos
    rw [Int.zero_add]
    obtain ⟨ch, hch, mch, _⟩ := atI_of (xs := L0.cps.toList) (k := (fi + st * ((ws.length : Nat) : Int)) % 26) (by omega) (by rw [L0_len]; omega)
    have lch := L0_ltr mch
    have hat : at_.toNat < bl.length := by omega
    refine ⟨_, rfl, _, rfl, _, rfl, _, rfl, _, _, rfl, rfl, .inl ⟨by omega, by omega⟩, _, _, rfl, rfl, .inl ⟨_, rfl, _, _, rfl, rfl, (by show (0 : Int) < 26; decide), L0, _, ch, rfl, rfl, by decide +kernel, hch, ?_⟩⟩
    have e1 := slice_to (a := bl) a4
    have e2 := slice_from (a := bl) (show 0 ≤ at_ + 1 by omega)
    refine ⟨_, rfl, _, rfl, _, rfl, S bl, rfl, by rw [S_len]; omega, ?_⟩
    rw [e1]
    refine ⟨_, rfl, S (bl.take at_.toNat), S [ch], rfl, rfl, by rw [S_len, S_len, List.length_take, List.length_singleton]; omega, ?_⟩
    refine ⟨_, rfl, _, rfl, _, _, rfl, rfl, _, rfl, S bl, rfl, by rw [S_len]; omega, ?_⟩
    rw [e2]
    refine ⟨S (bl.take at_.toNat) ++ S [ch], S (bl.drop (at_ + 1).toNat), rfl, rfl, by rw [S_cat, S_len, S_len, List.length_append, List.length_take, List.length_drop, List.length_singleton]; omega, ?_⟩
    have ew : S (bl.take at_.toNat) ++ S [ch] ++ S (bl.drop (at_ + 1).toNat) = S (bl.take at_.toNat ++ [ch] ++ bl.drop (at_.toNat + 1)) := by
      rw [S_cat, S_cat, show (at_ + 1).toNat = at_.toNat + 1 by omega]
    rw [ew]
    have nw := nm_mid nB hat lch
    generalize bl.take at_.toNat ++ [ch] ++ bl.drop (at_.toNat + 1) = w0 at nw
    -- if way == 1
    refine ⟨fun σ' H'' => ∃ wl, Nm wl ∧ σ' = [some (.ref p), some (.int m), some (.str L0), some (.str (L0 ++ L1)), some (.str (S bl)), some (.int at_), some (.int fi), some (.int st), some (.int wy), some (.ref f), some (.int (ws.length : Nat)), some (.str (S [ch])), some (.str (S wl)), t] ∧ H' = H'', ?_, ?_⟩
    · refine ⟨_, rfl, rfl, _, rfl, ite2 (fun _ => ?_) (fun _ => ⟨w0, nw, rfl, rfl⟩)⟩
      refine ⟨_, rfl, "q1_x", 2, rfl, rfl, by decide, by decide, by decide +kernel, ?_⟩
      rw [qq_eq]
      refine ⟨S bl, S qq, rfl, rfl, by rw [S_len, S_len]; show bl.length + 8 ≤ sizeLine; omega, ?_⟩
      refine ⟨_, rfl, .inl ⟨_, rfl, _, _, rfl, rfl, (by show (0 : Int) < 8; decide), _, _, rfl, rfl, _, rfl, S bl ++ S qq, rfl, by rw [S_cat, S_len, List.length_append]; show bl.length + 8 ≤ sizeLine; omega, ?_⟩⟩
      rw [S_cat bl qq, slice_to (show 0 ≤ ((ws.length : Nat) : Int) % 8 + 1 by omega)]
      have e3 : (((ws.length : Nat) : Int) % 8 + 1).toNat = (ws.length % 8) + 1 := by omega
      rw [e3]
      exact ⟨_, nm_pre nB (Nat.mod_lt _ (by decide)), rfl, rfl⟩
    rintro σ' H'' ⟨w1, n1, rfl, rfl⟩
    -- if way == 2
    refine ⟨fun σ' H'' => ∃ wl, Nm wl ∧ σ' = [some (.ref p), some (.int m), some (.str L0), some (.str (L0 ++ L1)), some (.str (S bl)), some (.int at_), some (.int fi), some (.int st), some (.int wy), some (.ref f), some (.int (ws.length : Nat)), some (.str (S [ch])), some (.str (S wl)), t] ∧ H' = H'', ?_, ?_⟩
    · refine ⟨_, rfl, rfl, _, rfl, ite2 (fun _ => ?_) (fun _ => ⟨w1, n1, rfl, rfl⟩)⟩
      have hm := Int.fmod_nonneg_of_pos ((ws.length : Nat) : Int) (show (0 : Int) < ((S bl).length : Nat) by rw [S_len]; omega)
      have hm2 := Int.fmod_lt_of_pos ((ws.length : Nat) : Int) (show (0 : Int) < ((S bl).length : Nat) by rw [S_len]; omega)
      have hm3 : (Int.fmod ((ws.length : Nat) : Int) ((S bl).length : Nat)).toNat < bl.length := by rw [S_len] at hm2 ⊢; omega
      refine ⟨_, rfl, _, rfl, _, rfl, .inl ⟨_, rfl, _, rfl, S bl, rfl, by rw [S_len]; omega, _, _, rfl, rfl, by rw [S_len]; omega, _, rfl, S bl, rfl, by rw [S_len]; omega, ?_⟩⟩
      rw [slice_to hm]
      refine ⟨S [ch], _, rfl, rfl, by rw [S_len, S_len, List.length_take, List.length_singleton]; omega, ?_⟩
      rw [S_cat [ch] _]
      exact ⟨_, nm_sig nB hm3 lch, rfl, rfl⟩
    rintro σ' H'' ⟨w2, n2, rfl, rfl⟩
    have c29 : W29.length = 29 := rfl
    refine while_by (fun σ H2 => ∃ (tn : Nat) (x : Str), Nm x.cps.toList ∧ σ = [some (.ref p), some (.int m), some (.str L0), some (.str (L0 ++ L1)), some (.str (S bl)), some (.int at_), some (.int fi), some (.int st), some (.int wy), some (.ref f), some (.int (ws.length : Nat)), some (.str (S [ch])), some (.str x), some (.int (tn : Nat))] ∧
        H2 f = some (.lst (ws.map V.str)) ∧ Kp p H H2 ∧ Pen K H2 p (n + 14) ∧ (∀ u, u + 1 < tn → cand ws.length u ∈ ws ++ W29) ∧ (∀ u, tn = u + 1 → x = cand ws.length u))
      (fun σ _ => match (σ[13]? : Option (Option V)) with | some (some (V.int i)) => (60 - i).toNat | _ => 0)
      ⟨0, S w2, n2, rfl, hL, kp', hP', fun u hu => absurd hu (by omega), fun u hu => absurd hu (by omega)⟩ ?_ ?_
    · rintro σ H2 ⟨tn, x, nx, rfl, hL2, kp2, hP2, hs, hx⟩
      have test : ∀ (σ0 : L2.St) (R : Bool → Hp → Prop), σ0[12]? = some (some (.str x)) → σ0[9]? = some (some (.ref f)) → (∀ H3, Same H2 H3 → (x ∈ ws ++ W29 → R true H3) ∧ (x ∉ ws ++ W29 → R false H3)) →
          tOr (tTest (tOp (rIn K false) (tVar 12) (tVar 9))) (tTest (tOp (rIn K false) (tVar 12) (fun _ H Q => spWords [] H Q C8.E0))) σ0 H2 R := fun σ0 R g1 g2 hR => by
        refine ⟨_, g1, _, g2, f, _, rfl, .inl (SqL.of hL2), rfl, flat_str _, _, rfl, ?_⟩
        refine ite2 (fun c1 => ?_) (fun c1 => ?_)
        · have c2 : inV (.str x) (ws.map V.str) = true := c1
          rw [inV_str] at c2
          exact (hR H2 (Same.refl H2)).1 (List.mem_append_left _ (of_decide_eq_true c2))
        · have c2 : ¬ inV (.str x) (ws.map V.str) = true := c1
          rw [inV_str, decide_eq_true_eq] at c2
          refine ⟨_, g1, rfl, fun l3 H3 _ s3 hW => ⟨l3, _, rfl, .inl (SqL.of hW), rfl, flat_str _, _, rfl, ?_⟩⟩
          show R (inV (.str x) (W29.map V.str)) H3
          rw [inV_str]
          by_cases c3 : x ∈ W29
          · rw [decide_eq_true c3]
            exact (hR H3 s3).1 (List.mem_append_right _ c3)
          · rw [decide_eq_false c3]
            exact (hR H3 s3).2 fun q => (List.mem_append.mp q).elim c2 c3
      refine test _ _ rfl rfl fun H3 s3 => ⟨fun hin => iteT ?_, fun hout => iteF ?_⟩
      · have all : ∀ u, u < tn → cand ws.length u ∈ ws ++ W29 := fun u hu => by
          by_cases h : u + 1 < tn
          · exact hs u h
          · rw [← hx u (by omega)]; exact hin
        have few := cand_few all
        rw [List.length_append, c29] at few
        have l1 := len_nat (i := ws.length) (by omega)
        have l2 := len_nat (i := tn) (by omega)
        have lw : ("w" : Str).length = 1 := by decide +kernel
        have l_ : ("_" : Str).length = 1 := by decide +kernel
        have ap : ∀ a b : Str, (a ++ b).length = a.length + b.length := fun a b => Array.size_append
        refine ⟨_, rfl, _, rfl, log_small (by omega), _, _, rfl, rfl, by rw [lw]; omega, _, _, rfl, rfl, by rw [ap, lw, l_]; omega, ?_⟩
        refine ⟨_, rfl, _, rfl, log_small (by omega), _, _, rfl, rfl, by rw [ap, ap, lw, l_]; omega, ?_⟩
        rw [cand_eq]
        refine ⟨_, rfl, _, _, rfl, rfl, ⟨tn + 1, cand ws.length tn, cand_nm (by omega) (by omega), rfl, s3 _ _ hL2, kp2.trans (Kp.of s3), hP2.same s3, fun u hu => all u (by omega), fun u hu => by
          have : u = tn := by omega
          rw [this]⟩, ?_⟩
        show (60 - (((tn : Nat) : Int) + 1)).toNat < (60 - ((tn : Nat) : Int)).toNat
        omega
      · have hL3 := s3 _ _ hL2
        refine ⟨_, rfl, .inl ⟨rfl, _, SqL.of hL3⟩, _, rfl, f, _, _, rfl, rfl, hL3, by rw [List.length_map]; omega, ws ++ [x], _, _, _, _, rfl, ?_, by rw [List.length_append]; rfl, ?_, ?_, (kp2.trans (Kp.of s3)).loc hf0, (hP2.same s3).put hL3⟩
        · rw [upd_same, List.map_append]
          rfl
        · intro y hy
          rcases List.mem_append.mp hy with hy | hy
          · exact hok y hy
          · rw [List.mem_singleton.mp hy]
            exact ⟨nx, fun q => hout (List.mem_append_right _ q)⟩
        · rw [List.nodup_append]
          refine ⟨hnd, by simp, fun a ha b hb => ?_⟩
          rw [List.mem_singleton.mp hb]
          exact fun q => hout (List.mem_append_left _ (by rw [← q]; exact ha))
    · exact MonT.or (MonE.test (MonE.op MonR.in_ MonE.var MonE.var)) (MonE.test (MonE.op MonR.in_ MonE.var MonE.words))
  · rintro σ H' ⟨ws, k, c, s, t, rfl, hL, hlen', hok, hnd, kp', hP'⟩
    exact ⟨_, rfl, q f ws H' kp' hf0 (hP'.mono (by omega)) hL (by omega) hok hnd⟩
end Pf
namespace Bs
open PySem PySem.Spec PyProof.Rows L2 SX
variable {P : Program} {w : World} {K : PySem.W.Frag} {mg : Str → Option Value} {base : Heap}
/-! ### the part of the heap that never changes again -/
def KpO (p : Option Addr) (H H' : Hp) : Prop := ∀ b o, H b = some o → some b ≠ p → H' b = some o
structure Step (p : Option Addr) (G H G' H' : Hp) : Prop where
  gg : Same G G'
  gh : Same G' H'
  new : ∀ b, G' b ≠ none → G b ≠ none ∨ H b = none
  kp : KpO p H H'
  pp : ∀ b, some b = p → H b ≠ none → H' b ≠ none
section
variable {p : Option Addr} {G H G1 H1 G2 H2 : Hp} {q : Addr} {o : HO}
theorem Step.refl (h : Same G H) : Step p G H G H := ⟨Same.refl G, h, fun b hb => .inl hb, fun b o e _ => e, fun b _ e => e⟩
theorem Step.keep (a : Step p G H G1 H1) {b : Addr} (hb : H b ≠ none) : H1 b ≠ none := by
  by_cases e : some b = p
  · exact a.pp b e hb
  · cases eh : H b with
    | none => exact absurd eh hb
    | some o => rw [a.kp b o eh e]; exact fun z => by cases z
theorem Step.free (a : Step p G H G1 H1) {b : Addr} (hb : H1 b = none) : H b = none := by
  cases eh : H b with
  | none => rfl
  | some o => exact absurd hb (a.keep (by rw [eh]; exact fun z => by cases z))
theorem Step.trans (a : Step p G H G1 H1) (b : Step p G1 H1 G2 H2) : Step p G H G2 H2 where
  gg := a.gg.trans b.gg
  gh := b.gh
  new c hc := by
    rcases b.new c hc with h | h
    · exact a.new c h
    · exact .inr (a.free h)
  kp c o e n := b.kp c o (a.kp c o e n) n
  pp c e h := b.pp c e (a.pp c e h)
theorem Step.out (a : Step p G H G1 H1) {b : Addr} (h1 : G b = none) (h2 : H b ≠ none) : G1 b = none := by
  cases e : G1 b with
  | none => rfl
  | some o =>
    rcases a.new b (by rw [e]; exact fun z => by cases z) with h | h
    · exact absurd h1 h
    · exact absurd h h2
theorem same_none (h : Same G H) (hq : H q = none) : G q = none := h.free hq
/-- a new object that will never change -/
theorem Step.new_ (a : Step p G H G1 H1) (hq : H1 q = none) : Step p G H (upd G1 q o) (upd H1 q o) where
  gg := Same.new a.gg (same_none a.gh hq)
  gh b u e := by
    by_cases c : b = q
    · subst c; rw [upd_same] at e ⊢; exact e
    · rw [upd_ne c] at e ⊢; exact a.gh b u e
  new b hb := by
    by_cases c : b = q
    · subst c; exact .inr (a.free hq)
    · rw [upd_ne c] at hb; exact a.new b hb
  kp b u e n := by
    have h := a.kp b u e n
    rw [upd_ne (ne_of_none h hq)]; exact h
  pp b e h := by
    have z := a.pp b e h
    have c : b ≠ q := fun c => z (by rw [c]; exact hq)
    rw [upd_ne c]; exact z
/-- an object that may change stands or changes at q, which was free at the start -/
theorem Step.loc (a : Step p G H G1 H1) (hq : H q = none) (gq : G1 q = none) : Step p G H G1 (upd H1 q o) where
  gg := a.gg
  gh b u e := by rw [upd_ne (ne_of_none e gq)]; exact a.gh b u e
  new := a.new
  kp b u e n := by rw [upd_ne (ne_of_none e hq)]; exact a.kp b u e n
  pp b e h := by
    have c : b ≠ q := fun c => h (by rw [c]; exact hq)
    rw [upd_ne c]; exact a.pp b e h
/-- what stands at a local q will never change again -/
theorem Step.freeze (a : Step p G H G1 H1) (hq : H q = none) (h : H1 q = some o) (gq : G1 q = none) : Step p G H (upd G1 q o) H1 where
  gg := Same.new a.gg gq
  gh b u e := by
    by_cases c : b = q
    · subst c; rw [upd_same] at e; rw [h]; exact e
    · rw [upd_ne c] at e; exact a.gh b u e
  new b hb := by
    by_cases c : b = q
    · subst c; exact .inr hq
    · rw [upd_ne c] at hb; exact a.new b hb
  kp := a.kp
  pp := a.pp
theorem Step.same (a : Step none G H G1 H1) : Same H H1 := fun b o e => a.kp b o e (fun z => by cases z)
theorem Step.some_ {c : Addr} (a : Step none G H G1 H1) : Step (some c) G H G1 H1 := ⟨a.gg, a.gh, a.new, fun b o e _ => a.same b o e, fun b _ h => by
  cases eh : H b with
  | none => exact absurd eh h
  | some o => rw [a.same b o eh]; exact fun z => by cases z⟩
theorem Kp.step {c : Addr} (k : Kp c H H1) (h : Same G H) (gc : G c = none) (hc : H c ≠ none → H1 c ≠ none) : Step (some c) G H G H1 where
  gg := Same.refl G
  gh b o e := k b o (h b o e) (ne_of_none e gc)
  new b hb := .inl hb
  kp b o e n := k b o e (fun z => n (by rw [z]))
  pp b e h := by rw [Option.some.inj e] at h ⊢; exact hc h
theorem Step.kpc {c : Addr} (a : Step (some c) G H G1 H1) : Kp c H H1 := fun b o e n => a.kp b o e fun z => n (Option.some.inj z)
end
/-- the pen stands at p, outside of what never changes -/
structure Ps (K : PySem.W.Frag) (G H : Hp) (p : Addr) (n : Nat) : Prop where
  gh : Same G H
  out : G p = none
  pen : Pen K H p n
theorem Ps.step {G H G1 H1 : Hp} {p : Addr} {n m : Nat} (a : Ps K G H p n) (s : Step (some p) G H G1 H1) (h : Pen K H1 p m) : Ps K G1 H1 p m := ⟨s.gh, s.out a.out a.pen.there, h⟩
theorem Ps.stepN {G H G1 H1 : Hp} {p : Addr} {n : Nat} (a : Ps K G H p n) (s : Step none G H G1 H1) : Ps K G1 H1 p n := ⟨s.gh, s.out a.out a.pen.there, a.pen.same s.same⟩
theorem Ps.draw {G H H1 : Hp} {p : Addr} {n : Nat} (a : Ps K G H p n) (k : Kp p H H1) (h : Pen K H1 p (n + 1)) : Step (some p) G H G H1 ∧ Ps K G H1 p (n + 1) := by
  have s : Step (some p) G H G H1 := Kp.step k a.gh a.out fun _ => h.there
  exact ⟨s, a.step s h⟩
theorem Ps.new_ {G H : Hp} {p q : Addr} {n : Nat} {o : HO} (a : Ps K G H p n) (hq : H q = none) : Step (some p) G H (upd G q o) (upd H q o) ∧ Ps K (upd G q o) (upd H q o) p n := by
  have s : Step none G H (upd G q o) (upd H q o) := (Step.refl a.gh).new_ hq
  exact ⟨s.some_, a.stepN s⟩
theorem Ps.mono {G H : Hp} {p : Addr} {n m : Nat} (a : Ps K G H p n) (h : n ≤ m) : Ps K G H p m := ⟨a.gh, a.out, a.pen.mono h⟩
/-! ### terms -/
inductive So where
  | row | column | place | zero | func | rule
  deriving DecidableEq
def So.s : So → Str
  | .row => "row"
  | .column => "column"
  | .place => "place"
  | .zero => "zero"
  | .func => "function"
  | .rule => "rule"
inductive Mt where
  | mk (so : So) (w : List Nat) (ts : List Mt) (b : Bool)
def tx (so : So) (w : List Nat) (xs : List (List Nat)) (b : Bool) : List Nat := match so with
  | .row => if b = true then w ++ [39] else w
  | .column => xs.headD [] ++ [46] ++ w
  | .place => [64] ++ xs.headD []
  | .zero => [48]
  | .func => w ++ [40] ++ TL.joinL [44, 32] xs ++ [41]
  | .rule => w ++ [91] ++ TL.joinL [44, 32] xs ++ [93]
def Mt.txt : Mt → List Nat
  | .mk so w ts b => tx so w (ts.map Mt.txt) b
theorem Mt.txt_mk (so : So) (w : List Nat) (ts : List Mt) (b : Bool) : (Mt.mk so w ts b).txt = tx so w (ts.map Mt.txt) b := by rw [Mt.txt]
def Mt.dep : Mt → Nat
  | .mk _ _ ts _ => 1 + (ts.map Mt.dep).foldr max 0
theorem Mt.dep_mk (so : So) (w : List Nat) (ts : List Mt) (b : Bool) : (Mt.mk so w ts b).dep = 1 + (ts.map Mt.dep).foldr max 0 := by rw [Mt.dep]
theorem fold_max {l : List Nat} {x : Nat} (h : x ∈ l) : x ≤ l.foldr max 0 := by
  induction l with
  | nil => cases h
  | cons y r ih =>
    rw [List.foldr_cons]
    rcases List.mem_cons.mp h with h | h
    · rw [h]; exact Nat.le_max_left ..
    · exact Nat.le_trans (ih h) (Nat.le_max_right ..)
theorem Mt.dep_part {so : So} {w : List Nat} {ts : List Mt} {b : Bool} {t : Mt} (h : t ∈ ts) : t.dep < (Mt.mk so w ts b).dep := by
  rw [Mt.dep_mk]
  have := fold_max (List.mem_map_of_mem (f := Mt.dep) h)
  omega
/-- the law's own tuples of a term, all below what never changes -/
inductive MAt (G : Hp) : V → Mt → Prop where
  | mk {a p : Addr} {so : So} {w : List Nat} {vs : List V} {ts : List Mt} {b : Bool} (ha : G a = some (.tup [.str so.s, .str (S w), .ref p, .bl b])) (hp : G p = some (.tup vs)) (hl : vs.length = ts.length)
      (h : ∀ (i : Nat) (v : V) (t : Mt), vs[i]? = some v → ts[i]? = some t → MAt G v t) : MAt G (.ref a) (.mk so w ts b)
theorem MAt.same {G G' : Hp} (s : Same G G') : ∀ {v : V} {t : Mt}, MAt G v t → MAt G' v t := fun h => by
  induction h with
  | mk ha hp hl _ ih => exact .mk (s _ _ ha) (s _ _ hp) hl ih
/-- the program's term objects -/
def tf (so : So) (w : List Nat) (l : Addr) (b : Bool) (t : List Nat) (d : Nat) : List (Str × V) :=
  putF "_depth" (.int (d : Nat)) (putF "text" (.str (S t)) (putF "marked" (.bl b) (putF "parts" (.ref l) (putF "name" (.str (S w)) (putF "kind" (.str so.s) [])))))
inductive TAt (C : Addr) (G : Hp) : V → Mt → Prop where
  | mk {a dx l : Addr} {so : So} {w : List Nat} {vs : List V} {ts : List Mt} {b : Bool} (ha : G a = some (.ins C dx (tf so w l b (tx so w (ts.map Mt.txt) b) (1 + (ts.map Mt.dep).foldr max 0)))) (hp : G l = some (.lst vs)) (hl : vs.length = ts.length)
      (h : ∀ (i : Nat) (v : V) (t : Mt), vs[i]? = some v → ts[i]? = some t → TAt C G v t) : TAt C G (.ref a) (.mk so w ts b)
theorem TAt.same {C : Addr} {G G' : Hp} (s : Same G G') : ∀ {v : V} {t : Mt}, TAt C G v t → TAt C G' v t := fun h => by
  induction h with
  | mk ha hp hl _ ih => exact .mk (s _ _ ha) (s _ _ hp) hl ih
section
variable {so : So} {w : List Nat} {l : Addr} {b : Bool} {t : List Nat} {d : Nat}
theorem tf_depth : (tf so w l b t d).lookup ("_depth" : Str) = some (.int (d : Nat)) := by unfold tf; rw [lookup_putF, if_pos rfl]
theorem tf_text : (tf so w l b t d).lookup ("text" : Str) = some (.str (S t)) := by unfold tf; rw [lookup_putF, if_neg (by decide +kernel), lookup_putF, if_pos rfl]
theorem tf_marked : (tf so w l b t d).lookup ("marked" : Str) = some (.bl b) := by unfold tf; rw [lookup_putF, if_neg (by decide +kernel), lookup_putF, if_neg (by decide +kernel), lookup_putF, if_pos rfl]
theorem tf_parts : (tf so w l b t d).lookup ("parts" : Str) = some (.ref l) := by unfold tf; rw [lookup_putF, if_neg (by decide +kernel), lookup_putF, if_neg (by decide +kernel), lookup_putF, if_neg (by decide +kernel), lookup_putF, if_pos rfl]
theorem tf_name : (tf so w l b t d).lookup ("name" : Str) = some (.str (S w)) := by unfold tf; rw [lookup_putF, if_neg (by decide +kernel), lookup_putF, if_neg (by decide +kernel), lookup_putF, if_neg (by decide +kernel), lookup_putF, if_neg (by decide +kernel), lookup_putF, if_pos rfl]
theorem tf_kind : (tf so w l b t d).lookup ("kind" : Str) = some (.str so.s) := by unfold tf; rw [lookup_putF, if_neg (by decide +kernel), lookup_putF, if_neg (by decide +kernel), lookup_putF, if_neg (by decide +kernel), lookup_putF, if_neg (by decide +kernel), lookup_putF, if_neg (by decide +kernel), lookup_putF, if_pos rfl]
end
theorem Same.off {G H : Hp} {q : Addr} {o : HO} (s : Same G H) (h : G q = none) : Same G (upd H q o) := fun b u e => by rw [upd_ne (ne_of_none e h)]; exact s b u e
theorem max_is {l : List Nat} {m : Int} (h0 : l.map (fun (n : Nat) => (n : Int)) = [] → m = 0) (h1 : l.map (fun (n : Nat) => (n : Int)) ≠ [] → m ∈ l.map (fun (n : Nat) => (n : Int)) ∧ ∀ k ∈ l.map (fun (n : Nat) => (n : Int)), k ≤ m) : m = ((l.foldr max 0 : Nat) : Int) := by
  cases l with
  | nil => exact h0 rfl
  | cons x r =>
    obtain ⟨hm, ha⟩ := h1 (fun z => by cases z)
    obtain ⟨n, hn, rfl⟩ := List.mem_map.mp hm
    have up := fold_max hn
    have dn : (x :: r).foldr max 0 ≤ n := by
      have all : ∀ y ∈ x :: r, y ≤ n := fun y hy => by
        have := ha _ (List.mem_map_of_mem (f := fun (n : Nat) => (n : Int)) hy)
        omega
      have gen : ∀ q : List Nat, (∀ y ∈ q, y ≤ n) → q.foldr max 0 ≤ n := fun q => by
        induction q with
        | nil => intro _; exact Nat.zero_le _
        | cons z s ih =>
          intro h
          rw [List.foldr_cons]
          exact Nat.max_le.mpr ⟨h z List.mem_cons_self, ih fun y hy => h y (List.mem_cons_of_mem _ hy)⟩
      exact gen _ all
    exact congrArg (fun (n : Nat) => (n : Int)) (Nat.le_antisymm up dn)
end Bs
namespace Bs
open PySem PySem.Spec PyProof.Rows L2 SX
variable {P : Program} {w : World} {K : PySem.W.Frag} {mg : Str → Option Value} {base : Heap}
theorem q_ : ("'" : Str) = S [39] := by decide +kernel
theorem dot_ : ("." : Str) = S [46] := by decide +kernel
theorem at__ : ("@" : Str) = S [64] := by decide +kernel
theorem zero_ : ("0" : Str) = S [48] := by decide +kernel
theorem lp_ : ("(" : Str) = S [40] := by decide +kernel
theorem rp_ : (")" : Str) = S [41] := by decide +kernel
theorem lb_ : ("[" : Str) = S [91] := by decide +kernel
theorem rb_ : ("]" : Str) = S [93] := by decide +kernel
theorem cs_ : (", " : Str) = S [44, 32] := by decide +kernel
theorem em_ : (Str.empty : Str) = S [] := rfl
theorem joinL_len (s : List Nat) : ∀ xs : List (List Nat), (TL.joinL s xs).length ≤ (xs.map List.length).sum + xs.length * s.length
  | [] => by simp [TL.joinL]
  | [p] => by simp [TL.joinL]
  | p :: q :: r => by
    have ih := joinL_len s (q :: r)
    rw [TL.joinL, List.length_append, List.length_append]
    simp only [List.map_cons, List.sum_cons, List.length_cons, Nat.succ_mul] at ih ⊢
    omega
theorem sum_le {n : Nat} : ∀ {xs : List (List Nat)}, (∀ x ∈ xs, x.length ≤ n) → (xs.map List.length).sum ≤ xs.length * n
  | [], _ => by simp
  | x :: r, h => by
    have ih := sum_le (xs := r) fun y hy => h y (List.mem_cons_of_mem _ hy)
    have := h x List.mem_cons_self
    simp only [List.map_cons, List.sum_cons, List.length_cons, Nat.succ_mul]
    omega
theorem lenS (xs : List (List Nat)) : ((xs.map S).map (fun x => x.length)).sum = (xs.map List.length).sum := by rw [SX.lens]
def spText : Sp := fun vs H Q _ => ∃ (so : So) (w : List Nat) (l : Addr) (xs : List (List Nat)) (b : Bool), vs = [.str so.s, .str (S w), .ref l, .bl b] ∧ H l = some (.lst ((xs.map S).map V.str)) ∧ w.length ≤ 8 ∧ xs.length ≤ 3 ∧
  (∀ x ∈ xs, x.length ≤ 600000) ∧ (so = .column ∨ so = .place → xs ≠ []) ∧ Q (.str (S (tx so w xs b))) H
end Bs
namespace Pf
open PySem PySem.Spec PyProof.Rows L2 Bs SX
variable {P : Program} {w : World} {K : PySem.W.Frag} {mg : Str → Option Value} {base : Heap}
local macro_rules | `(tactic| walk_at "no") => `(tactic| refine ite2 (fun c => absurd (V.str.inj (of_decide_eq_true c)) (by decide +kernel)) (fun _ => ?_))
local macro_rules | `(tactic| walk_at "yes") => `(tactic| refine ite2 (fun _ => ?_) (fun c => absurd (decide_eq_true rfl) c))
abbrev N_text_of : List Str := ["kind", "name", "parts", "marked", "inside"]
theorem sc_text_of : FnScope N_text_of ["kind", "name", "parts", "marked"] (defScope s_text_of) := ⟨rfl, rfl, rfl, by decide +kernel, rfl, by decide +kernel, by decide +kernel⟩
theorem c_text_of (T : Tx K mg) : C8.Cal P w K mg base 1 "_text_of" spText [] := by
  obtain ⟨fd, F⟩ := f_text_of T
  refine mkCal F (g_text_of T) (F.bindsN fun _ _ _ _ _ _ us hl => match us, hl with | [_, _, _, _], _ => rfl) .nil sc_text_of (fun vs H Q E h => ?_) (fun cdv A outer s H vs Q E hr h => ?_)
  · obtain ⟨so, w, l, xs, b, rfl, _⟩ := h
    rfl
  obtain ⟨so, w, l, xs, b, rfl, hl, hw, hx, hxs, hne, q⟩ := h
  have hu := hu_of hr
  have sl : sizeLine = 16777216 := rfl
  have sj := joinL_len [44, 32] xs
  have ss := sum_le hxs
  have s3 : xs.length * 600000 ≤ 3 * 600000 := Nat.mul_le_mul_right _ hx
  have l2 : ([44, 32] : List Nat).length = 2 := rfl
  rw [l2] at sj
  have head : xs ≠ [] → ∃ x0, atI ((xs.map S).map V.str) 0 = some (.str (S x0)) ∧ xs.headD [] = x0 ∧ x0.length ≤ 600000 := fun h => by
    cases xs with
    | nil => exact absurd rfl h
    | cons x r => exact ⟨x, atI_nat (j := 0) (xs := (((x :: r).map S).map V.str)) rfl, rfl, hxs x List.mem_cons_self⟩
  refine ⟨_, (pss_cons (ps_if (pt_cmpR op_eq (pv 0) pe_str (nomark _)) (pss_one (ps_ret (pe_ifExp (pt_val (pv 3)) (pe_joined (PJ.cons (pe_fmt (pv 1)) (PJ.cons pe_str PJ.nil))) (pv 1)))) pss_nil)
    (pss_cons (ps_if (pt_cmpR op_eq (pv 0) pe_str (nomark _)) (pss_one (ps_ret (pe_joined (PJ.cons (pe_fmt (pe_ix (ix_listK (K := K) rfl) (pv 2) pe_int (fun _ _ => rfl))) (PJ.cons pe_str (PJ.cons (pe_fmt (pv 1)) PJ.nil)))))) pss_nil)
    (pss_cons (ps_if (pt_cmpR op_eq (pv 0) pe_str (nomark _)) (pss_one (ps_ret (pe_joined (PJ.cons pe_str (PJ.cons (pe_fmt (pe_ix (ix_listK (K := K) rfl) (pv 2) pe_int (fun _ _ => rfl))) PJ.nil))))) pss_nil)
    (pss_cons (ps_if (pt_cmpR op_eq (pv 0) pe_str (nomark _)) (pss_one (ps_ret pe_str)) pss_nil)
    (pss_cons (ps_set (i := 4) sc_text_of.nd rfl (Or.inl rfl) (pe_join pe_str (pv 2)))
    (pss_one (ps_ret (pe_ifExp (pt_cmpR op_eq (pv 0) pe_str (nomark _)) (pe_joined (PJ.cons (pe_fmt (pv 1)) (PJ.cons pe_str (PJ.cons (pe_fmt (pv 4)) (PJ.cons pe_str PJ.nil))))) (pe_joined (PJ.cons (pe_fmt (pv 1)) (PJ.cons pe_str (PJ.cons (pe_fmt (pv 4)) (PJ.cons pe_str PJ.nil))))))))))))), ?_⟩
  cases so with
  | row =>
    refine ⟨_, rfl, rfl, _, rfl, ?_⟩
    walk_at "yes"
    refine ⟨_, rfl, b, rfl, ?_⟩
    cases b with
    | true =>
      refine iteT ⟨_, rfl, .inl ⟨S w, rfl, by rw [S_len]; omega, _, rfl, by rw [em_, S_cat, S_len]; simp; omega, "'", rfl, by rw [em_, q_, S_cat, S_cat, S_len]; simp; omega, ?_⟩⟩
      rw [em_, q_, S_cat, S_cat]
      exact q
    | false => exact iteF ⟨_, rfl, q⟩
  | column =>
    obtain ⟨x0, h0, e0, z0⟩ := head (hne (.inl rfl))
    refine ⟨_, rfl, rfl, _, rfl, ?_⟩
    walk_at "no"
    refine ⟨_, rfl, rfl, _, rfl, ?_⟩
    walk_at "yes"
    refine ⟨_, rfl, l, _, 0, _, rfl, rfl, SqL.of hl, h0, .inl ⟨S x0, rfl, by rw [S_len]; omega, _, rfl, by rw [em_, S_cat, S_len]; simp; omega, ".", rfl, by rw [em_, dot_, S_cat, S_cat, S_len]; simp; omega, _, rfl, .inl ⟨S w, rfl, by rw [S_len]; omega, _, rfl, by rw [em_, dot_, S_cat, S_cat, S_cat, S_len]; simp; omega, ?_⟩⟩⟩
    rw [em_, dot_, S_cat, S_cat, S_cat]
    have e : tx .column w xs b = [] ++ x0 ++ [46] ++ w := by rw [← e0]; rfl
    rw [← e]
    exact q
  | place =>
    obtain ⟨x0, h0, e0, z0⟩ := head (hne (.inr rfl))
    refine ⟨_, rfl, rfl, _, rfl, ?_⟩
    walk_at "no"
    refine ⟨_, rfl, rfl, _, rfl, ?_⟩
    walk_at "no"
    refine ⟨_, rfl, rfl, _, rfl, ?_⟩
    walk_at "yes"
    refine ⟨"@", rfl, by rw [em_, at__, S_cat, S_len]; simp; omega, _, rfl, l, _, 0, _, rfl, rfl, SqL.of hl, h0, .inl ⟨S x0, rfl, by rw [S_len]; omega, _, rfl, by rw [em_, at__, S_cat, S_cat, S_len]; simp; omega, ?_⟩⟩
    rw [em_, at__, S_cat, S_cat]
    have e : tx .place w xs b = [] ++ [64] ++ x0 := by rw [← e0]; rfl
    rw [← e]
    exact q
  | zero =>
    refine ⟨_, rfl, rfl, _, rfl, ?_⟩
    walk_at "no"
    refine ⟨_, rfl, rfl, _, rfl, ?_⟩
    walk_at "no"
    refine ⟨_, rfl, rfl, _, rfl, ?_⟩
    walk_at "no"
    refine ⟨_, rfl, rfl, _, rfl, ?_⟩
    walk_at "yes"
    have e : (V.str "0" : V) = V.str (S (tx .zero w xs b)) := congrArg V.str zero_
    show Q (V.str "0") H
    rw [e]
    exact q
  | func =>
    refine ⟨_, rfl, rfl, _, rfl, ?_⟩
    walk_at "no"
    refine ⟨_, rfl, rfl, _, rfl, ?_⟩
    walk_at "no"
    refine ⟨_, rfl, rfl, _, rfl, ?_⟩
    walk_at "no"
    refine ⟨_, rfl, rfl, _, rfl, ?_⟩
    walk_at "no"
    refine ⟨⟨_, rfl⟩, _, rfl, ", ", l, xs.map S, rfl, rfl, .inl (SqL.of hl), by rw [lenS, List.length_map, cs_, S_len, l2]; omega, ?_⟩
    rw [cs_, join_S]
    refine ⟨_, rfl, rfl, _, rfl, ?_⟩
    walk_at "yes"
    refine ⟨_, rfl, .inl ⟨S w, rfl, by rw [S_len]; omega, _, rfl, by rw [em_, S_cat, S_len]; simp; omega, "(", rfl, by rw [em_, lp_, S_cat, S_cat, S_len]; simp; omega, _, rfl, .inl ⟨_, rfl, by rw [S_len]; omega, _, rfl, by rw [em_, lp_, S_cat, S_cat, S_cat, S_len]; simp; omega, ")", rfl, by rw [em_, lp_, rp_, S_cat, S_cat, S_cat, S_cat, S_len]; simp; omega, ?_⟩⟩⟩
    rw [em_, lp_, rp_, S_cat, S_cat, S_cat, S_cat]
    exact q
  | rule =>
    refine ⟨_, rfl, rfl, _, rfl, ?_⟩
    walk_at "no"
    refine ⟨_, rfl, rfl, _, rfl, ?_⟩
    walk_at "no"
    refine ⟨_, rfl, rfl, _, rfl, ?_⟩
    walk_at "no"
    refine ⟨_, rfl, rfl, _, rfl, ?_⟩
    walk_at "no"
    refine ⟨⟨_, rfl⟩, _, rfl, ", ", l, xs.map S, rfl, rfl, .inl (SqL.of hl), by rw [lenS, List.length_map, cs_, S_len, l2]; omega, ?_⟩
    rw [cs_, join_S]
    refine ⟨_, rfl, rfl, _, rfl, ?_⟩
    walk_at "no"
    refine ⟨_, rfl, .inl ⟨S w, rfl, by rw [S_len]; omega, _, rfl, by rw [em_, S_cat, S_len]; simp; omega, "[", rfl, by rw [em_, lb_, S_cat, S_cat, S_len]; simp; omega, _, rfl, .inl ⟨_, rfl, by rw [S_len]; omega, _, rfl, by rw [em_, lb_, S_cat, S_cat, S_cat, S_len]; simp; omega, "]", rfl, by rw [em_, lb_, rb_, S_cat, S_cat, S_cat, S_cat, S_len]; simp; omega, ?_⟩⟩⟩
    rw [em_, lb_, rb_, S_cat, S_cat, S_cat, S_cat]
    exact q
end Pf
namespace Bs
open PySem PySem.Spec PyProof.Rows L2 SX
variable {P : Program} {w : World} {K : PySem.W.Frag} {mg : Str → Option Value} {base : Heap}
theorem ok0 {nm qual : Str} {par : Arguments} {bd : List Stmt} {sco : Scope} {N ps : List Str} {k : Nat} {sp : Sp} {kws : List (Str × V)} {dvs' : List V} {a : Addr} {fd : FuncData}
    (F : FunD K nm qual par bd sco dvs' kws a fd) (S : FnScope N ps sco) (len : ∀ vs H Q E, sp vs H Q E → vs.length = ps.length)
    (body : ∀ (cdv : Value) (A : Around) (outer : List Env) (s : Shared) (H : Hp) (vs : List V) (Q : VK) (E : XK), Room k (A.deeper (envOfC qual sco s.heap.objs.size a cdv)) → sp vs H Q E →
      ∃ t, PSs (cxOf C8.CX0 P w K mg base N qual sco a cdv A outer s H E).nox bd t ∧ t { nx := fun _ H' => Q .non H', rt := Q } (start N vs) H) : FnOk P w K mg base C8.CX0 (k + 1) a fd ps sp :=
  F.ok S len fun cdv A outer s H vs Q E hr h => let ⟨t, h1, h2⟩ := body cdv A outer s H vs Q E hr h
    ⟨t, h1.nox, h2⟩
theorem upd_swap {H : Hp} {p l : Addr} {A B L : HO} (h : p ≠ l) : upd (upd (upd H p A) l L) p B = upd (upd H l L) p B := by
  funext b
  unfold upd
  by_cases c : b = p
  · simp [c]
  · simp [c]
theorem row_dec (so : So) : decide (V.str so.s = V.str "row") = decide (so = .row) := by
  cases so with
  | row => exact decide_eq_true rfl
  | _ => exact decide_eq_false fun h => absurd (V.str.inj h) (by decide +kernel)
theorem take_one {α : Type} {ts : List α} {i : Nat} {t : α} (h : ts[i]? = some t) : ts.take (i + 1) = ts.take i ++ [t] := by
  rw [List.take_add_one, h]
  rfl
theorem get_pair {α β : Type} {xs : List α} {ys : List β} {i : Nat} {x : α} (hl : xs.length = ys.length) (h : xs[i]? = some x) : ∃ y, ys[i]? = some y ∧ y ∈ ys := by
  have hi := (List.getElem?_eq_some_iff.mp h).1
  exact ⟨ys[i], List.getElem?_eq_getElem (by omega), List.getElem_mem (by omega)⟩
/-- parts that a term of this kind may have, as far as the program leans on it -/
structure Shp (so : So) (w : List Nat) (ts : List Mt) : Prop where
  w8 : w.length ≤ 8
  t3 : ts.length ≤ 3
  tx : ∀ t ∈ ts, t.txt.length ≤ 600000
  ne : so = .column ∨ so = .place → ts ≠ []
def spInit (K : PySem.W.Frag) (C : Addr) : Sp := fun vs H Q _ => ∃ (G : Hp) (p dx pa : Addr) (so : So) (w : List Nat) (b : Bool) (pv : List V) (ts : List Mt), vs = [.ref p, .str so.s, .str (S w), .ref pa, .bl b] ∧ Same G H ∧ G p = none ∧ H p = some (.ins C dx []) ∧
  (SqL K H pa pv ∨ SqT K H pa pv) ∧ pv.length = ts.length ∧ (∀ (i : Nat) (v : V) (t : Mt), pv[i]? = some v → ts[i]? = some t → TAt C G v t) ∧ Shp so w ts ∧
  ∀ (H' : Hp) (l : Addr), Kp p H H' → H l = none → H' l = some (.lst pv) → H' p = some (.ins C dx (tf so w l (decide (so = .row) && b) (tx so w (ts.map Mt.txt) (decide (so = .row) && b)) (1 + (ts.map Mt.dep).foldr max 0))) → Q .non H'
end Bs
namespace Pf
open PySem PySem.Spec PyProof.Rows L2 Bs SX
variable {P : Program} {w : World} {K : PySem.W.Frag} {mg : Str → Option Value} {base : Heap}
abbrev CT (K : PySem.W.Frag) : Addr := He.ga K "Term"
theorem scope_depth : FnScope ["self"] ["self"] (defScope s_Term_depth) := ⟨rfl, rfl, rfl, by decide +kernel, rfl, by decide +kernel, by decide +kernel⟩
/-- the property's getter -/
theorem o_depth (T : Tx K mg) : ∃ fd, FnOk P w K mg base C8.CX0 1 (Hd.inRec "property" "Term" "depth" K) fd ["self"] (getSp (CT K) "_depth") ∧ Binds K fd ["self"] [] := by
  obtain ⟨fd, F⟩ := f_Term_depth T
  have b := F.bindsN (ps := ["self"]) fun _ _ _ _ _ _ us hl => match us, hl with | [_], _ => rfl
  obtain ⟨oc, od, dV, kV, doc, pm, an, cdv, ct, osl, rfl, lk, hcd, _, _⟩ := F.ex
  exact ⟨_, fn_getter (N := ["self"]) lk hcd scope_depth rfl rfl (cls_Term_ T) (noat_Term_depth T), b⟩
abbrev N_Term_init : List Str := ["self", "kind", "name", "parts", "marked", "part"]
theorem sc_Term_init : FnScope N_Term_init ["self", "kind", "name", "parts", "marked"] (defScope s_Term_init) := ⟨rfl, rfl, rfl, by decide +kernel, rfl, by decide +kernel, by decide +kernel⟩
theorem o_init (T : Tx K mg) : ∃ fd, FnOk P w K mg base C8.CX0 4 (He.ma K (CT K) "__init__") fd ["self", "kind", "name", "parts", "marked"] (spInit K (CT K)) ∧ FunD K "__init__" "Term.__init__" (defArgs s_Term_init) (defBody s_Term_init) (defScope s_Term_init) [.bl false] [] (He.ma K (CT K) "__init__") fd := by
  obtain ⟨fd, F⟩ := f_Term_init T
  refine ⟨fd, ?_, F⟩
  have c_text_of := c_text_of (P := P) (w := w) (base := base) T
  obtain ⟨fdd, FD, bD⟩ := o_depth (P := P) (w := w) (base := base) T
  refine ok0 F sc_Term_init (fun vs H Q E h => ?_) (fun cdv A outer s H vs Q E hr h => ?_)
  · obtain ⟨G, p, dx, pa, so, w, b, pv, ts, rfl, _⟩ := h
    rfl
  obtain ⟨G, p, dx, pa, so, w, b, pv', ts, rfl, hG, hGp, hp, hpa, hlen, hts, sh, q⟩ := h
  have hu := hu_of hr
  have cls_depth := cls_Term_ T
  have pp_depth := Hd.propB_ok (ex_2 T)
  have F_depth := FD
  have b_depth := bD
  have C0 := cls_Term_ T
  have sl : sizeLine = 16777216 := rfl
  refine ⟨_, (pss_cons (ps_fld (pv 0) (pv 1) rfl)
    (pss_cons (ps_fld (pv 0) (pv 2) rfl)
    (pss_cons (ps_fld (pv 0) (pe_callTy call_list_of (by rfl) (z_list T) boot_list (pa_cons (pv 3) pa_nil)) rfl)
    (C8.pss_cut (ps_fld (pv 0) (pe_and (pe_cmpR op_eq (pv 1) pe_str (nomark _)) (pe_one (pe_callTy call_bool1 (by rfl) (z_bool T) boot_bool (pa_cons (pv 4) pa_nil)))) rfl)
    (pss_cons (ps_fld (pv 0) (C8.pe_c c_text_of hr (by first | decide | omega) rfl (pa_cons (pv 1) (pa_cons (pv 2) (pa_cons (pe_lc (own := [("part", 5)]) rfl sc_Term_init.nd (pi_listK (K := K) rfl (pe_fldK (K := K) rfl (pv 0) (by rfl))) (blkOk_by (N := N_Term_init) (sc := defScope s_Term_init) (by decide +kernel)) (fun _ _ _ _ _ => (pg_name (i := 5) sc_Term_init.nd rfl (Or.inl rfl))) (fun _ _ _ _ _ => pts_nil) (fun _ _ _ _ _ => (pe_fldK (K := K) rfl (pv 5) (by rfl)))) (pa_cons (pe_fldK (K := K) rfl (pv 0) (by rfl)) pa_nil))))) rfl)
    (pss_one (ps_fld (pv 0) (pe_op op_add pe_int (pe_callBK (cr_maxD rfl hu) (by rfl) (z_max T) boot_max (pa_cons (pe_lc (own := [("part", 5)]) rfl sc_Term_init.nd (pi_listK (K := K) rfl (pe_fldK (K := K) rfl (pv 0) (by rfl))) (blkOk_by (N := N_Term_init) (sc := defScope s_Term_init) (by decide +kernel)) (fun _ _ _ _ _ => (pg_name (i := 5) sc_Term_init.nd rfl (Or.inl rfl))) (fun _ _ _ _ _ => pts_nil) (fun _ _ _ _ _ => (pe_prop (E := C8.E0) (pv 5) cls_depth pp_depth F_depth (hr.mono (by decide)) b_depth .nil C8.pass0 rfl))) pa_nil) (pk_cons pe_int pk_nil))) rfl))))))), ?_⟩
  refine ⟨_, rfl, _, rfl, p, CT K, dx, [], rfl, hp, C0, noat_Term_kind T, (by show 0 < 1000; decide), ?_⟩
  refine ⟨_, rfl, _, rfl, p, CT K, dx, _, rfl, upd_same, C0, noat_Term_name T, (by show 1 < 1000; decide), ?_⟩
  rw [upd_upd]
  have k1 : Kp p H (upd H p (.ins (CT K) dx (putF "name" (.str (S w)) (putF "kind" (.str so.s) [])))) := Kp.upd
  have hpap : pa ≠ p ∨ ∀ H' : Hp, SqL K H' pa pv' ∨ SqT K H' pa pv' := by
    rcases hpa with ((h | ⟨o, h⟩) | h) | ((h | ⟨o, h⟩) | h)
    · exact .inl (ne_of h hp (by intro z; cases z))
    · exact .inl (ne_of h hp (by intro z; cases z))
    · exact .inr fun _ => .inl (.inr h)
    · exact .inl (ne_of h hp (by intro z; cases z))
    · exact .inl (ne_of h hp (by intro z; cases z))
    · exact .inr fun _ => .inr (.inr h)
  have hpa1 : SqL K (upd H p (.ins (CT K) dx (putF "name" (.str (S w)) (putF "kind" (.str so.s) [])))) pa pv' ∨ SqT K (upd H p (.ins (CT K) dx (putF "name" (.str (S w)) (putF "kind" (.str so.s) [])))) pa pv' := by
    rcases hpap with ne | all
    · rcases hpa with h | h
      · exact .inl (SqL.kp h k1 fun _ _ => ne)
      · exact .inr (SqT.kp h k1 fun _ _ => ne)
    · exact all _
  refine ⟨_, rfl, pa, pv', rfl, hpa1, fun l hl => ?_⟩
  have npl : p ≠ l := ne_of_none upd_same hl
  have hl0 : H l = none := by rw [upd_ne npl.symm] at hl; exact hl
  have hGl : G l = none := hG.free hl0
  refine ⟨_, rfl, p, CT K, dx, _, rfl, (by rw [upd_ne npl]; exact upd_same), C0, noat_Term_parts T, (by show 2 < 1000; decide), ?_⟩
  rw [upd_swap npl]
  have hG1 : Same G (upd H l (.lst pv')) := Same.off hG hGl
  have hlst : upd H l (.lst pv') l = some (.lst pv') := upd_same
  have hk1 : Kp p H (upd H l (.lst pv')) := (Kp.refl p H).new hl0
  generalize upd H l (.lst pv') = Hl at hG1 hlst hk1
  obtain ⟨bm, ebm⟩ : ∃ bm, bm = (decide (so = .row) && b) := ⟨_, rfl⟩
  rw [← ebm] at q
  refine ⟨fun σ' H' => σ' = start N_Term_init [.ref p, .str so.s, .str (S w), .ref pa, .bl b] ∧ H' = upd Hl p (.ins (CT K) dx (putF "marked" (.bl bm) (putF "parts" (.ref l) (putF "name" (.str (S w)) (putF "kind" (.str so.s) []))))), ?_, ?_⟩
  · refine ⟨_, rfl, rfl, _, rfl, ?_⟩
    rw [row_dec]
    refine ite2 (fun c => ?_) (fun c => ?_)
    · refine ⟨_, rfl, .inr ⟨b, rfl, _, rfl, p, CT K, dx, _, rfl, upd_same, C0, noat_Term_marked T, (by show 3 < 1000; decide), rfl, ?_⟩⟩
      rw [upd_upd, ebm, c, Bool.true_and]
    · refine ⟨_, rfl, p, CT K, dx, _, rfl, upd_same, C0, noat_Term_marked T, (by show 3 < 1000; decide), rfl, ?_⟩
      rw [upd_upd, ebm, Bool.eq_false_iff.mpr c, Bool.false_and]
  rintro σ' H' ⟨rfl, rfl⟩
  have lk_parts : ∀ u : List (Str × V), (putF "marked" (.bl bm) (putF "parts" (.ref l) u)).lookup ("parts" : Str) = some (.ref l) := fun u => by rw [lookup_putF, if_neg (by decide +kernel), lookup_putF, if_pos rfl]
  have lk_marked : ∀ u : List (Str × V), (putF "marked" (.bl bm) u).lookup ("marked" : Str) = some (.bl bm) := fun u => by rw [lookup_putF, if_pos rfl]
  have nlp : l ≠ p := npl.symm
  refine ⟨_, rfl, _, rfl, _, rfl, p, CT K, dx, _, _, rfl, upd_same, C0, noat_Term_parts T, lk_parts _, l, rfl, ⟨pv', SqL.of (by rw [upd_ne nlp]; exact hlst)⟩, fun D hD => ?_⟩
  have nDp : D ≠ p := (ne_of_none upd_same hD).symm
  have hD1 : Hl D = none := by rw [upd_ne nDp] at hD; exact hD
  have nlD : l ≠ D := ne_of_none hlst hD1
  have hGD : G D = none := hG1.free hD1
  generalize eF4 : putF "marked" (.bl bm) (putF "parts" (.ref l) (putF "name" (.str (S w)) (putF "kind" (.str so.s) []))) = F4 at *
  refine lc_list (K := K) (a := l) (xs := pv') (fun i H' => H' = upd (upd Hl p (.ins (CT K) dx F4)) D (.lst ((((ts.take i).map Mt.txt).map S).map V.str))) rfl ?_ ?_ ?_
  · rintro i H' _ rfl
    exact SqL.of (by rw [upd_ne nlD, upd_ne nlp]; exact hlst)
  · rintro i x H' hx rfl
    obtain ⟨t, ht, mt⟩ := get_pair hlen hx
    have tt := hts i x t hx ht
    cases tt with
    | @mk a' dx' l' so' w' vs' ts' b' ha' hp' hl' h' =>
    have hGH : Same G (upd (upd Hl p (.ins (CT K) dx F4)) D (.lst ((((ts.take i).map Mt.txt).map S).map V.str))) := Same.off (Same.off hG1 hGp) hGD
    refine ⟨rfl, ?_⟩
    unfold tYes
    refine iteT ⟨_, rfl, a', CT K, dx', _, _, rfl, hGH _ _ ha', C0, noat_Term_text T, tf_text, _, upd_same, ?_, ?_⟩
    · have := sh.t3
      simp only [List.length_map, List.length_take]
      omega
    · rw [upd_upd, take_one ht, List.map_append, List.map_append, List.map_append]
      rw [← Mt.txt_mk]
      rfl
  rintro H' rfl
  have etake : ts.take pv'.length = ts := by rw [hlen, List.take_length]
  rw [etake]
  refine ⟨_, rfl, p, CT K, dx, _, _, rfl, (by rw [upd_ne nDp.symm]; exact upd_same), C0, noat_Term_marked T, (by rw [← eF4]; exact lk_marked _), so, w, D, ts.map Mt.txt, bm, rfl, upd_same, sh.w8, by rw [List.length_map]; exact sh.t3, ?_, ?_, ?_⟩
  · intro x hx
    obtain ⟨t, ht, rfl⟩ := List.mem_map.mp hx
    exact sh.tx t ht
  · intro h e
    exact sh.ne h (List.map_eq_nil_iff.mp e)
  refine ⟨_, rfl, p, CT K, dx, _, rfl, (by rw [upd_ne nDp.symm]; exact upd_same), C0, noat_Term_text T, (by rw [← eF4]; show 4 < 1000; decide), ?_⟩
  rw [upd_swap nDp.symm]
  have hG2 : Same G (upd Hl D (.lst (((ts.map Mt.txt).map S).map V.str))) := Same.off hG1 hGD
  have hlst2 : upd Hl D (.lst (((ts.map Mt.txt).map S).map V.str)) l = some (.lst pv') := by rw [upd_ne nlD]; exact hlst
  have hk2 : Kp p H (upd Hl D (.lst (((ts.map Mt.txt).map S).map V.str))) := hk1.new hD1
  generalize upd Hl D (.lst (((ts.map Mt.txt).map S).map V.str)) = Hm at hG2 hlst2 hk2
  have lk_parts5 : (putF "text" (.str (S (tx so w (ts.map Mt.txt) bm))) F4).lookup ("parts" : Str) = some (.ref l) := by
    rw [lookup_putF, if_neg (by decide +kernel), ← eF4]; exact lk_parts _
  have e5 : putF "text" (.str (S (tx so w (ts.map Mt.txt) bm))) F4 = putF "text" (.str (S (tx so w (ts.map Mt.txt) bm))) (putF "marked" (.bl bm) (putF "parts" (.ref l) (putF "name" (.str (S w)) (putF "kind" (.str so.s) [])))) := by rw [eF4]
  generalize putF "text" (.str (S (tx so w (ts.map Mt.txt) bm))) F4 = F5 at *
  refine ⟨_, rfl, p, CT K, dx, _, _, rfl, upd_same, C0, noat_Term_parts T, lk_parts5, l, rfl, ⟨pv', SqL.of (by rw [upd_ne nlp]; exact hlst2)⟩, fun D2 hD2 => ?_⟩
  have n2p : D2 ≠ p := (ne_of_none upd_same hD2).symm
  have hD21 : Hm D2 = none := by rw [upd_ne n2p] at hD2; exact hD2
  have nlD2 : l ≠ D2 := ne_of_none hlst2 hD21
  have hGD2 : G D2 = none := hG2.free hD21
  refine lc_list (K := K) (a := l) (xs := pv') (fun i H' => H' = upd (upd Hm p (.ins (CT K) dx F5)) D2 (.lst ((((ts.take i).map Mt.dep).map fun (n : Nat) => (n : Int)).map V.int))) rfl ?_ ?_ ?_
  · rintro i H' _ rfl
    exact SqL.of (by rw [upd_ne nlD2, upd_ne nlp]; exact hlst2)
  · rintro i x H' hx rfl
    obtain ⟨t, ht, mt⟩ := get_pair hlen hx
    have tt := hts i x t hx ht
    cases tt with
    | @mk a' dx' l' so' w' vs' ts' b' ha' hp' hl' h' =>
    have hGH : Same G (upd (upd Hm p (.ins (CT K) dx F5)) D2 (.lst ((((ts.take i).map Mt.dep).map fun (n : Nat) => (n : Int)).map V.int))) := Same.off (Same.off hG2 hGp) hGD2
    refine ⟨rfl, ?_⟩
    unfold tYes
    refine iteT ⟨_, rfl, a', dx', _, rfl, hGH _ _ ha', a', dx', _, _, rfl, hGH _ _ ha', tf_depth, _, upd_same, ?_, ?_⟩
    · have := sh.t3
      simp only [List.length_map, List.length_take]
      omega
    · rw [upd_upd, take_one ht, List.map_append, List.map_append, List.map_append]
      rw [← Mt.dep_mk so' w' ts' b']
      rfl
  rintro H' rfl
  rw [etake]
  refine ⟨D2, (ts.map Mt.dep).map (fun (n : Nat) => (n : Int)), 0, rfl, rfl, SqL.of upd_same, fun m m0 m1 => ?_⟩
  have em := max_is m0 m1
  refine ⟨_, _, rfl, rfl, _, rfl, p, CT K, dx, _, rfl, (by rw [upd_ne n2p.symm]; exact upd_same), C0, noat_Term_depth T, (by rw [e5]; show 5 < 1000; decide), ?_⟩
  rw [upd_swap n2p.symm]
  refine q _ l ?_ hl0 (by rw [upd_ne nlp, upd_ne nlD2]; exact hlst2) ?_
  · exact (hk2.new hD21).put
  · rw [upd_same, em, e5]
    have e6 : (1 : Int) + (((ts.map Mt.dep).foldr max 0 : Nat) : Int) = ((1 + (ts.map Mt.dep).foldr max 0 : Nat) : Int) := by omega
    dsimp only
    rw [e6]
    rfl
end Pf
namespace Bs
open PySem PySem.Spec PyProof.Rows L2 SX
variable {P : Program} {w : World} {K : PySem.W.Frag} {mg : Str → Option Value} {base : Heap}
theorem make_term {G H : Hp} {C pa : Addr} {so : So} {w : List Nat} {b : Bool} {pv : List V} {ts : List Mt} {Q : VK} {E : XK} (hG : Same G H) (hpa : SqL K H pa pv ∨ SqT K H pa pv) (hlen : pv.length = ts.length)
    (hts : ∀ (i : Nat) (v : V) (t : Mt), pv[i]? = some v → ts[i]? = some t → TAt C G v t) (sh : Shp so w ts)
    (q : ∀ (G' H' : Hp) (x : Addr), Step none G H G' H' → TAt C G' (.ref x) (.mk so w ts (decide (so = .row) && b)) → H x = none → Q (.ref x) H') :
    ∀ x dx, H x = none → H dx = none → dx ≠ x → spInit K C [.ref x, .str so.s, .str (S w), .ref pa, .bl b] (upd (upd H dx (.own x)) x (.ins C dx [])) (fun v H2 => v = .non ∧ Q (.ref x) H2) E := by
  intro x dx hx hdx ne
  have hx1 : upd H dx (.own x) x = none := by rw [upd_ne (fun z => ne z.symm)]; exact hx
  have s1 : Same H (upd (upd H dx (.own x)) x (.ins C dx [])) := Same.new (Same.new (Same.refl H) hdx) hx1
  have hGx : G x = none := hG.free hx
  refine ⟨G, x, dx, pa, so, w, b, pv, ts, rfl, hG.trans s1, hGx, upd_same, ?_, hlen, hts, sh, fun H' l kp hl hl' hx' => ⟨rfl, ?_⟩⟩
  · rcases hpa with h | h
    · exact .inl (s1.seq h)
    · refine .inr ?_
      rcases h with (h | ⟨o, h⟩) | h
      · exact .inl (.inl (s1 _ _ h))
      · exact .inl (.inr ⟨o, s1 _ _ h⟩)
      · exact .inr h
  have hl0 : H l = none := s1.free hl
  have nlx : l ≠ x := fun z => by rw [z, upd_same] at hl; cases hl
  have hGl : G l = none := hG.free hl0
  have gg : Same G (upd (upd G l (.lst pv)) x (.ins C dx (tf so w l (decide (so = .row) && b) (tx so w (ts.map Mt.txt) (decide (so = .row) && b)) (1 + (ts.map Mt.dep).foldr max 0)))) :=
    Same.off (Same.off (Same.refl G) hGl) hGx
  refine q _ H' x ⟨gg, fun c o e => ?_, fun c hc => ?_, fun c o e _ => ?_, fun c z => by cases z⟩ (.mk upd_same (by rw [upd_ne nlx]; exact upd_same) hlen fun i v t h1 h2 => (hts i v t h1 h2).same gg) hx
  · by_cases e1 : c = x
    · subst e1; rw [upd_same] at e; rw [hx']; exact e
    · rw [upd_ne e1] at e
      by_cases e2 : c = l
      · subst e2; rw [upd_same] at e; rw [hl']; exact e
      · rw [upd_ne e2] at e
        exact kp c o (s1 c o (hG c o e)) e1
  · by_cases e1 : c = x
    · subst e1; exact .inr hx
    · rw [upd_ne e1] at hc
      by_cases e2 : c = l
      · subst e2; exact .inr hl0
      · rw [upd_ne e2] at hc; exact .inl hc
  · have e1 : c ≠ x := fun z => by rw [z, hx] at e; cases e
    exact kp c o (s1 c o e) e1
def spRow (C : Addr) : Sp := fun vs H Q _ => ∃ (G : Hp) (w : List Nat) (b : Bool), vs = [.str (S w), .bl b] ∧ Same G H ∧ w.length ≤ 8 ∧
  ∀ (G' H' : Hp) (x : Addr), Step none G H G' H' → TAt C G' (.ref x) (.mk .row w [] b) → H x = none → Q (.ref x) H'
def spCol (C : Addr) : Sp := fun vs H Q _ => ∃ (G : Hp) (t w : List Nat) (b : Bool), vs = [.str (S t), .str (S w), .bl b] ∧ Same G H ∧ t.length ≤ 8 ∧ w.length ≤ 8 ∧
  ∀ (G' H' : Hp) (x : Addr), Step none G H G' H' → TAt C G' (.ref x) (.mk .column w [.mk .row t [] b] false) → H x = none → Q (.ref x) H'
def spPlace (C : Addr) : Sp := fun vs H Q _ => ∃ (G : Hp) (t : List Nat) (b : Bool), vs = [.str (S t), .bl b] ∧ Same G H ∧ t.length ≤ 8 ∧
  ∀ (G' H' : Hp) (x : Addr), Step none G H G' H' → TAt C G' (.ref x) (.mk .place [] [.mk .row t [] b] false) → H x = none → Q (.ref x) H'
def spZero (C : Addr) : Sp := fun vs H Q _ => ∃ (G : Hp), vs = [] ∧ Same G H ∧
  ∀ (G' H' : Hp) (x : Addr), Step none G H G' H' → TAt C G' (.ref x) (.mk .zero [] [] false) → H x = none → Q (.ref x) H'
def spEqT (C : Addr) (K : PySem.W.Frag) : Addr → V → Bool → Hp → Prop := fun a y r H => ∃ (G : Hp) (m : Mt), Same G H ∧ TAt C G (.ref a) m ∧
  ((∃ m2, TAt C G y m2 ∧ r = decide (m.txt = m2.txt)) ∨ (r = false ∧ ∃ t : String, t ∈ ["NoneType", "bool", "int", "str", "list", "tuple", "dict"] ∧ TyX K H y (.type t)))
def spStrT (C : Addr) : Addr → Str → Hp → Prop := fun a x H => ∃ (G : Hp) (m : Mt), Same G H ∧ TAt C G (.ref a) m ∧ x = S m.txt
theorem TAt.obj {C : Addr} {G : Hp} {v : V} {m : Mt} (h : TAt C G v m) : ∃ (a dx l : Addr) (so : So) (w : List Nat) (ts : List Mt) (b : Bool), v = .ref a ∧ m = .mk so w ts b ∧ G a = some (.ins C dx (tf so w l b m.txt m.dep)) := by
  cases h with
  | @mk a dx l so w vs ts b ha hp hl h => exact ⟨a, dx, l, so, w, ts, b, rfl, rfl, by rw [Mt.txt_mk, Mt.dep_mk]; exact ha⟩
end Bs
namespace Pf
open PySem PySem.Spec PyProof.Rows L2 Bs SX
variable {P : Program} {w : World} {K : PySem.W.Frag} {mg : Str → Option Value} {base : Heap}
theorem m_Term (T : Tx K mg) : C8.Mak P w K mg base 4 "Term" (CT K) (spInit K (CT K)) [] := by
  obtain ⟨fd, O, F⟩ := o_init (P := P) (w := w) (base := base) T
  obtain ⟨ds, hv, hb⟩ := F.binds1 (ps := ["self", "kind", "name", "parts", "marked"]) 5 1 (by simp) (by rfl) fun _ _ _ _ _ _ _ us its hl hi => match us, its, hl, hi with | [_, _, _, _, _], [_], _, _ => ⟨_, rfl, rfl⟩
  exact ⟨_, fd, _, ds, mkr_Term_ T, O, g_Term T, hb, hv⟩
theorem m_Term3 (T : Tx K mg) : C8.Mak P w K mg base 4 "Term" (CT K) (spInit K (CT K)) [.bl false] := by
  obtain ⟨fd, O, F⟩ := o_init (P := P) (w := w) (base := base) T
  obtain ⟨ds, hv, hb⟩ := F.binds1 (ps := ["self", "kind", "name", "parts", "marked"]) 4 0 (by simp) (by rfl) fun _ _ _ _ _ _ _ us its hl hi => match us, its, hl, hi with | [_, _, _, _], [_], _, _ => ⟨_, rfl, rfl⟩
  exact ⟨_, fd, _, ds, mkr_Term_ T, O, g_Term T, hb, hv⟩
abbrev N_row_term : List Str := ["table", "marked"]
theorem sc_row_term : FnScope N_row_term ["table", "marked"] (defScope s_row_term) := ⟨rfl, rfl, rfl, by decide +kernel, rfl, by decide +kernel, by decide +kernel⟩
theorem o_row_term (T : Tx K mg) : ∃ fd, FnOk P w K mg base C8.CX0 6 (He.ga K "row_term") fd ["table", "marked"] (spRow (CT K)) ∧ FunD K "row_term" "row_term" (defArgs s_row_term) (defBody s_row_term) (defScope s_row_term) [.bl false] [] (He.ga K "row_term") fd := by
  obtain ⟨fd, F⟩ := f_row_term T
  have m_Term := m_Term (P := P) (w := w) (base := base) T
  refine ⟨fd, ok0 F sc_row_term (fun vs H Q E h => ?_) (fun cdv A outer s H vs Q E hr h => ?_), F⟩
  · obtain ⟨G, w, b, rfl, _⟩ := h
    rfl
  obtain ⟨G, w, b, rfl, hG, hw, q⟩ := h
  refine ⟨_, (pss_one (ps_ret (C8.pe_mk m_Term hr (by first | decide | omega) rfl (pa_cons pe_str (pa_cons (pv 0) (pa_cons (pe_lst pa_nil) (pa_cons (pv 1) pa_nil))))))), ?_⟩
  refine ⟨_, rfl, Nat.zero_le _, fun l hl => ⟨_, rfl, ?_⟩⟩
  have s1 : Step none G H G (upd H l (.lst [])) := (Step.refl hG).loc hl (hG.free hl)
  refine make_term (so := .row) (w := w) (b := b) (pv := []) (ts := []) s1.gh (.inl (SqL.of upd_same)) rfl (fun i v t h => by cases h) ⟨hw, Nat.zero_le _, (fun t ht => by cases ht), (fun h => by rcases h with h | h <;> cases h)⟩ fun G' H' x s2 ht hx => ?_
  exact q G' H' x (s1.trans s2) ht (s1.free hx)
theorem c_row_term (T : Tx K mg) : C8.Cal P w K mg base 6 "row_term" (spRow (CT K)) [] := by
  obtain ⟨fd, O, F⟩ := o_row_term (P := P) (w := w) (base := base) T
  obtain ⟨ds, hv, hb⟩ := F.binds1 (ps := ["table", "marked"]) 2 1 (by simp) (by rfl) fun _ _ _ _ _ _ _ us its hl hi => match us, its, hl, hi with | [_, _], [_], _, _ => ⟨_, rfl, rfl⟩
  exact ⟨_, fd, _, ds, O, g_row_term T, F.kp, hb, hv⟩
theorem c_row_term1 (T : Tx K mg) : C8.Cal P w K mg base 6 "row_term" (spRow (CT K)) [.bl false] := by
  obtain ⟨fd, O, F⟩ := o_row_term (P := P) (w := w) (base := base) T
  obtain ⟨ds, hv, hb⟩ := F.binds1 (ps := ["table", "marked"]) 1 0 (by simp) (by rfl) fun _ _ _ _ _ _ _ us its hl hi => match us, its, hl, hi with | [_], [_], _, _ => ⟨_, rfl, rfl⟩
  exact ⟨_, fd, _, ds, O, g_row_term T, F.kp, hb, hv⟩
theorem row_txt (t : List Nat) (b : Bool) (h : t.length ≤ 8) : (Mt.mk .row t [] b).txt.length ≤ 9 := by
  rw [Mt.txt_mk]
  unfold tx
  simp only
  split
  · rw [List.length_append, List.length_singleton]; omega
  · omega
theorem one_row {C : Addr} {G : Hp} {x : Addr} {t : Mt} (h : TAt C G (.ref x) t) : ∀ (i : Nat) (v : V) (u : Mt), [V.ref x][i]? = some v → [t][i]? = some u → TAt C G v u := fun i v u h1 h2 => by
  cases i with
  | zero => cases h1; cases h2; exact h
  | succ i => cases h1
abbrev N_column_term : List Str := ["table", "name", "marked"]
theorem sc_column_term : FnScope N_column_term ["table", "name", "marked"] (defScope s_column_term) := ⟨rfl, rfl, rfl, by decide +kernel, rfl, by decide +kernel, by decide +kernel⟩
theorem o_column_term (T : Tx K mg) : ∃ fd, FnOk P w K mg base C8.CX0 7 (He.ga K "column_term") fd ["table", "name", "marked"] (spCol (CT K)) ∧ FunD K "column_term" "column_term" (defArgs s_column_term) (defBody s_column_term) (defScope s_column_term) [.bl false] [] (He.ga K "column_term") fd := by
  obtain ⟨fd, F⟩ := f_column_term T
  have m_Term3 := m_Term3 (P := P) (w := w) (base := base) T
  have c_row_term := c_row_term (P := P) (w := w) (base := base) T
  refine ⟨fd, ok0 F sc_column_term (fun vs H Q E h => ?_) (fun cdv A outer s H vs Q E hr h => ?_), F⟩
  · obtain ⟨G, t, w, b, rfl, _⟩ := h
    rfl
  obtain ⟨G, t, w, b, rfl, hG, ht, hw, q⟩ := h
  refine ⟨_, (pss_one (ps_ret (C8.pe_mk m_Term3 hr (by first | decide | omega) rfl (pa_cons pe_str (pa_cons (pv 1) (pa_cons (pe_lst (pa_cons (C8.pe_c c_row_term hr (by first | decide | omega) rfl (pa_cons (pv 0) (pa_cons (pv 2) pa_nil))) pa_nil)) pa_nil)))))), ?_⟩
  refine ⟨_, rfl, _, rfl, _, rfl, G, t, b, rfl, hG, ht, fun G1 H1 x s1 tx hx => ?_⟩
  refine ⟨by show 1 ≤ sizeLine; decide, fun l hl => ?_⟩
  have s2 := s1.loc (q := l) (o := .lst [.ref x]) (s1.free hl) (s1.gh.free hl)
  refine make_term (so := .column) (w := w) (b := false) (pv := [.ref x]) (ts := [.mk .row t [] b]) s2.gh (.inl (SqL.of upd_same)) rfl (one_row tx) ⟨hw, by simp, (fun u hu => by
    rw [List.mem_singleton.mp hu]; exact Nat.le_trans (row_txt t b ht) (by decide)), (fun _ h => by cases h)⟩ fun G' H' y s3 hy hny => ?_
  exact q G' H' y (s2.trans s3) hy (s2.free hny)
theorem c_column_term (T : Tx K mg) : C8.Cal P w K mg base 7 "column_term" (spCol (CT K)) [] := by
  obtain ⟨fd, O, F⟩ := o_column_term (P := P) (w := w) (base := base) T
  obtain ⟨ds, hv, hb⟩ := F.binds1 (ps := ["table", "name", "marked"]) 3 1 (by simp) (by rfl) fun _ _ _ _ _ _ _ us its hl hi => match us, its, hl, hi with | [_, _, _], [_], _, _ => ⟨_, rfl, rfl⟩
  exact ⟨_, fd, _, ds, O, g_column_term T, F.kp, hb, hv⟩
abbrev N_place_term : List Str := ["table", "marked"]
theorem sc_place_term : FnScope N_place_term ["table", "marked"] (defScope s_place_term) := ⟨rfl, rfl, rfl, by decide +kernel, rfl, by decide +kernel, by decide +kernel⟩
theorem o_place_term (T : Tx K mg) : ∃ fd, FnOk P w K mg base C8.CX0 7 (He.ga K "place_term") fd ["table", "marked"] (spPlace (CT K)) ∧ FunD K "place_term" "place_term" (defArgs s_place_term) (defBody s_place_term) (defScope s_place_term) [.bl false] [] (He.ga K "place_term") fd := by
  obtain ⟨fd, F⟩ := f_place_term T
  have m_Term3 := m_Term3 (P := P) (w := w) (base := base) T
  have c_row_term := c_row_term (P := P) (w := w) (base := base) T
  refine ⟨fd, ok0 F sc_place_term (fun vs H Q E h => ?_) (fun cdv A outer s H vs Q E hr h => ?_), F⟩
  · obtain ⟨G, t, b, rfl, _⟩ := h
    rfl
  obtain ⟨G, t, b, rfl, hG, ht, q⟩ := h
  refine ⟨_, (pss_one (ps_ret (C8.pe_mk m_Term3 hr (by first | decide | omega) rfl (pa_cons pe_str (pa_cons pe_str (pa_cons (pe_lst (pa_cons (C8.pe_c c_row_term hr (by first | decide | omega) rfl (pa_cons (pv 0) (pa_cons (pv 1) pa_nil))) pa_nil)) pa_nil)))))), ?_⟩
  refine ⟨_, rfl, _, rfl, G, t, b, rfl, hG, ht, fun G1 H1 x s1 tx hx => ?_⟩
  refine ⟨by show 1 ≤ sizeLine; decide, fun l hl => ?_⟩
  have s2 := s1.loc (q := l) (o := .lst [.ref x]) (s1.free hl) (s1.gh.free hl)
  have e0 : ("" : Str) = S [] := by decide +kernel
  show ∀ x dx, _ → _ → _ → spInit K (CT K) [.ref x, .str "place", .str "", .ref l, .bl false] _ _ _
  rw [e0]
  refine make_term (so := .place) (w := []) (b := false) (pv := [.ref x]) (ts := [.mk .row t [] b]) s2.gh (.inl (SqL.of upd_same)) rfl (one_row tx) ⟨by simp, by simp, (fun u hu => by
    rw [List.mem_singleton.mp hu]; exact Nat.le_trans (row_txt t b ht) (by decide)), (fun _ h => by cases h)⟩ fun G' H' y s3 hy hny => ?_
  exact q G' H' y (s2.trans s3) hy (s2.free hny)
theorem c_place_term (T : Tx K mg) : C8.Cal P w K mg base 7 "place_term" (spPlace (CT K)) [] := by
  obtain ⟨fd, O, F⟩ := o_place_term (P := P) (w := w) (base := base) T
  obtain ⟨ds, hv, hb⟩ := F.binds1 (ps := ["table", "marked"]) 2 1 (by simp) (by rfl) fun _ _ _ _ _ _ _ us its hl hi => match us, its, hl, hi with | [_, _], [_], _, _ => ⟨_, rfl, rfl⟩
  exact ⟨_, fd, _, ds, O, g_place_term T, F.kp, hb, hv⟩
abbrev N_zero_term : List Str := []
theorem sc_zero_term : FnScope N_zero_term [] (defScope s_zero_term) := ⟨rfl, rfl, rfl, by decide +kernel, rfl, by decide +kernel, by decide +kernel⟩
theorem c_zero_term (T : Tx K mg) : C8.Cal P w K mg base 6 "zero_term" (spZero (CT K)) [] := by
  obtain ⟨fd, F⟩ := f_zero_term T
  have m_Term3 := m_Term3 (P := P) (w := w) (base := base) T
  refine mkCal F (g_zero_term T) (F.bindsN fun _ _ _ _ _ _ us hl => match us, hl with | [], _ => rfl) .nil sc_zero_term (fun vs H Q E h => ?_) (fun cdv A outer s H vs Q E hr h => ?_)
  · obtain ⟨G, rfl, _⟩ := h
    rfl
  obtain ⟨G, rfl, hG, q⟩ := h
  refine ⟨_, (pss_one (ps_ret (C8.pe_mk m_Term3 hr (by first | decide | omega) rfl (pa_cons pe_str (pa_cons pe_str (pa_cons (pe_lst pa_nil) pa_nil)))))), ?_⟩
  refine ⟨Nat.zero_le _, fun l hl => ?_⟩
  have s2 := (Step.refl hG).loc (p := none) (q := l) (o := .lst []) hl (hG.free hl)
  have e0 : ("" : Str) = S [] := by decide +kernel
  show ∀ x dx, _ → _ → _ → spInit K (CT K) [.ref x, .str "zero", .str "", .ref l, .bl false] _ _ _
  rw [e0]
  refine make_term (so := .zero) (w := []) (b := false) (pv := []) (ts := []) s2.gh (.inl (SqL.of upd_same)) rfl (fun i v t h => by cases h) ⟨by simp, by simp, (fun u hu => by cases hu), (fun h => by rcases h with h | h <;> cases h)⟩ fun G' H' y s3 hy hny => ?_
  exact q G' H' y (s2.trans s3) hy (s2.free hny)
end Pf
namespace Bs
open PySem PySem.Spec PyProof.Rows L2 SX
variable {P : Program} {w : World} {K : PySem.W.Frag} {mg : Str → Option Value} {base : Heap} {X : Cx}
theorem nox_of {X : Cx} {st : List Stmt} {R : TS → Prop} (h : ∃ t, PSs X.nox st t ∧ R t) : ∃ t, PSs X st t ∧ R t := let ⟨t, a, b⟩ := h
  ⟨t, a.nox, b⟩
/-- a def with a star, called by its name -/
structure CalR (P : Program) (w : World) (K : PySem.W.Frag) (mg : Str → Option Value) (base : Heap) (k : Nat) (x : Str) (sp : Sp) : Prop where
  ex : ∃ f : Addr, FnR P w K mg base C8.CX0 k f sp ∧ mg x = some (.ref f) ∧ PySem.W.keepIn K (.ref f) = true
theorem pe_r {k j : Nat} {x : Str} {sp : Sp} {p pos : Pos} {e : Expr} {es : List Expr} {t : TA} (c : CalR X.prog X.w X.K X.mg X.base k x sp) (hr : Room j X.A) (hk : k ≤ j) (hg : Gl X x) (ha : PA X (e :: es) t)
    (hdb : (x == ("__debug__" : Str)) = false := by decide) (he : starEach (e :: es) X.env = (false, eval e X.env) :: starEach es X.env := by rfl) (hpl : (backTo pos (starEach es X.env)).any (·.1) = false := by rfl) :
    PE X (.Call (.Name x p) (e :: es) [] pos) (fun σ H Q => t σ H fun vs H1 => sp vs H1 Q C8.E0) := by
  obtain ⟨f, F, hm, kp⟩ := c.ex
  refine ⟨fun pins s σ H Q I h => ?_⟩
  refine wpAny_Call_Name_kw (ld_glob I hg hm ?_ hdb)
  exact PySem.W.callWith_K (h₀ := X.base) I.ok.mod.kin kp (thn (ha.run pos pins s σ H _ I h) fun us s1 ⟨vs, H1, I1, r, q⟩ => ⟨I1.kIn, wpAny_call (run_fnR F (hr.mono hk) C8.pass0 I1 r q)⟩) he hpl
def spFn (so : So) (C : Addr) : Sp := fun vs H Q _ => ∃ (G : Hp) (p : Addr) (w : List Nat) (xs : List V) (ts : List Mt), vs = [.str (S w), .ref p] ∧ Same G H ∧ H p = some (.tup xs) ∧ xs.length = ts.length ∧ (∀ (i : Nat) (v : V) (t : Mt), xs[i]? = some v → ts[i]? = some t → TAt C G v t) ∧ Shp so w ts ∧
  ∀ (G' H' : Hp) (x : Addr), Step none G H G' H' → TAt C G' (.ref x) (.mk so w ts false) → H x = none → Q (.ref x) H'
/-- what such a call asks, from outside -/
def spFnR (so : So) (C : Addr) : Sp := fun vs H Q E => ∃ ws rest : List V, vs = ws ++ rest ∧ ws.length = 1 ∧ rest.length ≤ sizeLine ∧ ∀ p, H p = none → spFn so C (ws ++ [V.ref p]) (upd H p (.tup rest)) Q E
end Bs
namespace Pf
open PySem PySem.Spec PyProof.Rows L2 Bs SX
variable {P : Program} {w : World} {K : PySem.W.Frag} {mg : Str → Option Value} {base : Heap}
abbrev N_function_term : List Str := ["name", "parts"]
theorem sc_function_term : FnScope N_function_term ["name", "parts"] (defScope s_function_term) := ⟨rfl, rfl, rfl, by decide +kernel, rfl, by decide +kernel, by decide +kernel⟩
theorem r_function_term (T : Tx K mg) : CalR P w K mg base 6 "function_term" (spFnR .func (CT K)) := by
  obtain ⟨fd, F⟩ := f_function_term T
  have m_Term3 := m_Term3 (P := P) (w := w) (base := base) T
  obtain ⟨oc, od, dV, kV, doc, pm, an, cdv, ct, osl, rfl, lk, hcd, hD, _⟩ := F.ex
  obtain ⟨_, rfl⟩ | ⟨hne, _⟩ := hD
  rotate_left
  · exact absurd rfl hne
  refine ⟨_, StX.fn_star (ps := ["name"]) (pv := "parts") (N := N_function_term) (sp := spFn .func (CT K)) lk hcd sc_function_term StX.cxUp_none (fun us rest hl => match us, rest, hl with | [_], [], _ => rfl | [_], _ :: _, _ => rfl) (fun A outer s H vs Q E hr h => ?_), g_function_term T, F.kp⟩
  obtain ⟨G, p, w, xs, ts, rfl, hG, hp, hlen, hts, sh, q⟩ := h
  refine nox_of ⟨_, (pss_one (ps_ret (C8.pe_mk m_Term3 hr (by first | decide | omega) rfl (pa_cons pe_str (pa_cons (pv 0) (pa_cons (pv 1) pa_nil)))))), ?_⟩
  refine ⟨_, rfl, _, rfl, ?_⟩
  exact make_term (so := .func) (w := w) (b := false) (pv := xs) (ts := ts) hG (.inr (SqT.of hp)) hlen hts sh fun G' H' y s3 hy hny => q G' H' y s3 hy hny
abbrev N_rule_term : List Str := ["name", "parts"]
theorem sc_rule_term : FnScope N_rule_term ["name", "parts"] (defScope s_rule_term) := ⟨rfl, rfl, rfl, by decide +kernel, rfl, by decide +kernel, by decide +kernel⟩
theorem r_rule_term (T : Tx K mg) : CalR P w K mg base 6 "rule_term" (spFnR .rule (CT K)) := by
  obtain ⟨fd, F⟩ := f_rule_term T
  have m_Term3 := m_Term3 (P := P) (w := w) (base := base) T
  obtain ⟨oc, od, dV, kV, doc, pm, an, cdv, ct, osl, rfl, lk, hcd, hD, _⟩ := F.ex
  obtain ⟨_, rfl⟩ | ⟨hne, _⟩ := hD
  rotate_left
  · exact absurd rfl hne
  refine ⟨_, StX.fn_star (ps := ["name"]) (pv := "parts") (N := N_rule_term) (sp := spFn .rule (CT K)) lk hcd sc_rule_term StX.cxUp_none (fun us rest hl => match us, rest, hl with | [_], [], _ => rfl | [_], _ :: _, _ => rfl) (fun A outer s H vs Q E hr h => ?_), g_rule_term T, F.kp⟩
  obtain ⟨G, p, w, xs, ts, rfl, hG, hp, hlen, hts, sh, q⟩ := h
  refine nox_of ⟨_, (pss_one (ps_ret (C8.pe_mk m_Term3 hr (by first | decide | omega) rfl (pa_cons pe_str (pa_cons (pv 0) (pa_cons (pv 1) pa_nil)))))), ?_⟩
  refine ⟨_, rfl, _, rfl, ?_⟩
  exact make_term (so := .rule) (w := w) (b := false) (pv := xs) (ts := ts) hG (.inr (SqT.of hp)) hlen hts sh fun G' H' y s3 hy hny => q G' H' y s3 hy hny
abbrev N_Term_eq : List Str := ["self", "other"]
theorem sc_Term_eq : FnScope N_Term_eq ["self", "other"] (defScope s_Term_eq) := ⟨rfl, rfl, rfl, by decide +kernel, rfl, by decide +kernel, by decide +kernel⟩
theorem o_eq (T : Tx K mg) : ∃ fd, FnOk P w K mg base C8.CX0 1 (He.ma K (CT K) "__eq__") fd ["self", "other"] (spCmp (spEqT (CT K) K)) ∧ Binds K fd ["self", "other"] [] := by
  obtain ⟨fd, F⟩ := f_Term_eq T
  refine ⟨fd, ok0 F sc_Term_eq (fun vs H Q E h => ?_) (fun cdv A outer s H vs Q E hr h => ?_), F.bindsN fun _ _ _ _ _ _ us hl => match us, hl with | [_, _], _ => rfl⟩
  · obtain ⟨a, y, r, rfl, _⟩ := h
    rfl
  obtain ⟨a, y, r, rfl, ⟨G, m, hG, ha, hy⟩, q⟩ := h
  have C0 := cls_Term_ T
  have I0 := Hd.insB_ok (ex_0 T)
  have pe_g_Term : ∀ {X : Cx} {pos : Pos}, X.mg = mg → Gl X "Term" → PE X (.Name "Term" pos) (tC (.ref (CT K))) := fun h1 h2 => C8.pe_gc h2 ⟨_, by rw [h1]; exact g_Term T, rfl⟩
  refine ⟨_, (pss_one (ps_ret (pe_and (pe_callB (call_isiK' (K := K) rfl) (by rfl) (z_isinstance T) boot_isinstance (pa_cons (pv 1) (pa_cons (pe_g_Term rfl rfl) pa_nil))) (pe_one (pe_cmpR op_eq (pe_fldK (K := K) rfl (pv 0) (by rfl)) (pe_fldK (K := K) rfl (pv 1) (by rfl)) (nomark _)))))), ?_⟩
  obtain ⟨a1, dx, l, so, w, ts, b, e1, e2, e3⟩ := ha.obj
  cases e1
  rcases hy with ⟨m2, hm2, er⟩ | ⟨er, t, ht, ty⟩
  · obtain ⟨a2, dx2, l2, so2, w2, ts2, b2, f1, f2, f3⟩ := hm2.obj
    subst f1
    refine ⟨_, rfl, .ref a2, .ref (CT K), .ref (CT K), .ref (CT K), true, rfl, .own _, .base (.ins (hG _ _ f3) C0 I0.ha I0.hn I0.htk I0.hm), I0.me, true, rfl, iteT ?_⟩
    refine ⟨_, rfl, a, CT K, dx, _, _, rfl, hG _ _ e3, C0, noat_Term_text T, tf_text, _, rfl, a2, CT K, dx2, _, _, rfl, hG _ _ f3, C0, noat_Term_text T, tf_text, rfl, ?_⟩
    have e4 : decide (V.str (S m.txt) = V.str (S m2.txt)) = r := by
      rw [er]
      by_cases c : m.txt = m2.txt
      · rw [c, decide_eq_true rfl, decide_eq_true rfl]
      · rw [decide_eq_false c, decide_eq_false fun h => c (S_inj (V.str.inj h))]
    rw [e4]
    exact q
  · have kk := Hd.kitsB_ok (ex_1 T) ht
    refine ⟨_, rfl, y, .ref (CT K), .type t, .ref (CT K), false, rfl, .own _, ty, kk.1, false, rfl, iteF ?_⟩
    rw [← er]
    exact q
abbrev N_Term_str : List Str := ["self"]
theorem sc_Term_str : FnScope N_Term_str ["self"] (defScope s_Term_str) := ⟨rfl, rfl, rfl, by decide +kernel, rfl, by decide +kernel, by decide +kernel⟩
theorem o_str (T : Tx K mg) : ∃ fd, FnOk P w K mg base C8.CX0 1 (He.ma K (CT K) "__str__") fd ["self"] (spStr (spStrT (CT K))) ∧ Binds K fd ["self"] [] := by
  obtain ⟨fd, F⟩ := f_Term_str T
  refine ⟨fd, ok0 F sc_Term_str (fun vs H Q E h => ?_) (fun cdv A outer s H vs Q E hr h => ?_), F.bindsN fun _ _ _ _ _ _ us hl => match us, hl with | [_], _ => rfl⟩
  · obtain ⟨a, x, rfl, _⟩ := h
    rfl
  obtain ⟨a, x, rfl, ⟨G, m, hG, ha, ex⟩, q⟩ := h
  obtain ⟨a1, dx, l, so, w, ts, b, e1, e2, e3⟩ := ha.obj
  cases e1
  refine ⟨_, (pss_one (ps_ret (pe_callTy SkE.call_str_str (by rfl) (z_str T) boot_str (pa_cons (pe_fldK (K := K) rfl (pv 0) (by rfl)) pa_nil)))), ?_⟩
  refine ⟨_, rfl, a, CT K, dx, _, _, rfl, hG _ _ e3, cls_Term_ T, noat_Term_text T, tf_text, _, rfl, ?_⟩
  rw [← ex]
  exact q
theorem own_eq (T : Tx K mg) {X : Cx} (h1 : X.prog = P) (h2 : X.w = w) (h3 : X.K = K) (h4 : X.mg = mg) (h5 : X.base = base) : OwnE X 1 (CT K) (spEqT (CT K) K) := by
  subst h1 h2 h3 h4 h5
  obtain ⟨fd, O, b⟩ := o_eq (P := X.prog) (w := X.w) (base := X.base) T
  exact ⟨⟨_, fd, _, O, (meth_Term_eq T).at_, (meth_Term_eq T).fn, b⟩, (Hd.insB_ok (ex_0 T)).hm, He.eqO_ok (ex_3 T)⟩
theorem own_str (T : Tx K mg) {X : Cx} (h1 : X.prog = P) (h2 : X.w = w) (h3 : X.K = K) (h4 : X.mg = mg) (h5 : X.base = base) : OwnS X 1 (CT K) (spStrT (CT K)) := by
  subst h1 h2 h3 h4 h5
  obtain ⟨fd, O, b⟩ := o_str (P := X.prog) (w := X.w) (base := X.base) T
  exact ⟨⟨_, fd, _, O, (meth_Term_str T).at_, (meth_Term_str T).fn, b⟩⟩
end Pf
namespace Bs
open PySem PySem.Spec PyProof.Rows L2 SX
def swap2 {α : Type} : List α → List α
  | a :: b :: r => b :: a :: r
  | l => l
theorem vals_swap {zs : List V} {ws : List Value} (r : Vals zs ws) : Vals (swap2 zs) (swap2 ws) := by
  cases r with
  | nil => exact .nil
  | cons a r =>
    cases r with
    | nil => exact .cons a .nil
    | cons b r => exact .cons b (.cons a r)
end Bs
namespace Pf
open PySem PySem.Spec PyProof.Rows L2 Bs SX
variable {P : Program} {w : World} {K : PySem.W.Frag} {mg : Str → Option Value} {base : Heap}
theorem k_row_term (T : Tx K mg) : CalK P w K mg base 6 "row_term" (spRow (CT K)) ["marked", "table"] swap2 := by
  obtain ⟨fd, O, F⟩ := o_row_term (P := P) (w := w) (base := base) T
  obtain ⟨its, hb⟩ := F.kbindsD (ps := ["table", "marked"]) 0 ["marked", "table"] (fun us its ws => swap2 ws) (by simp) (fun _ _ r => vals_swap r) fun _ _ _ _ _ _ _ us its ws hl hi hw => match us, its, ws, hl, hi, hw with | [], [_], [_, _], _, _, _ => ⟨_, rfl, rfl⟩
  exact ⟨_, fd, _, _, O, g_row_term T, F.kp, hb⟩
theorem k_place_term (T : Tx K mg) : CalK P w K mg base 7 "place_term" (spPlace (CT K)) ["marked", "table"] swap2 := by
  obtain ⟨fd, O, F⟩ := o_place_term (P := P) (w := w) (base := base) T
  obtain ⟨its, hb⟩ := F.kbindsD (ps := ["table", "marked"]) 0 ["marked", "table"] (fun us its ws => swap2 ws) (by simp) (fun _ _ r => vals_swap r) fun _ _ _ _ _ _ _ us its ws hl hi hw => match us, its, ws, hl, hi, hw with | [], [_], [_, _], _, _, _ => ⟨_, rfl, rfl⟩
  exact ⟨_, fd, _, _, O, g_place_term T, F.kp, hb⟩
theorem k_column_term (T : Tx K mg) : CalK P w K mg base 7 "column_term" (spCol (CT K)) ["name", "table", "marked"] swap2 := by
  obtain ⟨fd, O, F⟩ := o_column_term (P := P) (w := w) (base := base) T
  obtain ⟨its, hb⟩ := F.kbindsD (ps := ["table", "name", "marked"]) 0 ["name", "table", "marked"] (fun us its ws => swap2 ws) (by simp) (fun _ _ r => vals_swap r) fun _ _ _ _ _ _ _ us its ws hl hi hw => match us, its, ws, hl, hi, hw with | [], [_], [_, _, _], _, _, _ => ⟨_, rfl, rfl⟩
  exact ⟨_, fd, _, _, O, g_column_term T, F.kp, hb⟩
theorem kk_Term (T : Tx K mg) : MakK P w K mg base 4 "Term" (CT K) (spInit K (CT K)) ["kind", "name", "parts", "marked"] := by
  obtain ⟨fd, O, F⟩ := o_init (P := P) (w := w) (base := base) T
  obtain ⟨its, hb⟩ := F.kbindsD (ps := ["self", "kind", "name", "parts", "marked"]) 1 ["kind", "name", "parts", "marked"] (fun us its ws => us ++ ws) (by simp) (fun r1 _ r2 => r1.append r2) fun _ _ _ _ _ _ _ us its ws hl hi hw => match us, its, ws, hl, hi, hw with | [_], [_], [_, _, _, _], _, _, _ => ⟨_, rfl, rfl⟩
  exact ⟨_, fd, _, _, mkr_Term_ T, O, g_Term T, hb⟩
end Pf
namespace Bs
open PySem PySem.Spec PyProof.Rows L2 SX
variable {P : Program} {w : World} {K : PySem.W.Frag} {mg : Str → Option Value} {base : Heap}
/-! ### lists item by item -/
inductive All2 {α β : Type} (R : α → β → Prop) : List α → List β → Prop where
  | nil : All2 R [] []
  | cons {a : α} {b : β} {as : List α} {bs : List β} (h : R a b) (t : All2 R as bs) : All2 R (a :: as) (b :: bs)
section
variable {α β : Type} {R R' : α → β → Prop}
theorem All2.len : ∀ {as : List α} {bs : List β}, All2 R as bs → as.length = bs.length
  | _, _, .nil => rfl
  | _, _, .cons _ t => congrArg Nat.succ t.len
theorem All2.mono (h : ∀ a b, R a b → R' a b) : ∀ {as : List α} {bs : List β}, All2 R as bs → All2 R' as bs
  | _, _, .nil => .nil
  | _, _, .cons r t => .cons (h _ _ r) (t.mono h)
theorem All2.app : ∀ {as as' : List α} {bs bs' : List β}, All2 R as bs → All2 R as' bs' → All2 R (as ++ as') (bs ++ bs')
  | _, _, _, _, .nil, t => t
  | _, _, _, _, .cons r s, t => .cons r (s.app t)
theorem All2.tak : ∀ {as : List α} {bs : List β} (n : Nat), All2 R as bs → All2 R (as.take n) (bs.take n)
  | _, _, 0, _ => .nil
  | _, _, n + 1, .nil => .nil
  | _, _, n + 1, .cons r t => .cons r (t.tak n)
theorem All2.drp : ∀ {as : List α} {bs : List β} (n : Nat), All2 R as bs → All2 R (as.drop n) (bs.drop n)
  | _, _, 0, t => t
  | _, _, n + 1, .nil => .nil
  | _, _, n + 1, .cons _ t => t.drp n
theorem All2.get : ∀ {as : List α} {bs : List β} {i : Nat} {a : α} {b : β}, All2 R as bs → as[i]? = some a → bs[i]? = some b → R a b
  | _, _, 0, _, _, .cons r _, h1, h2 => by cases h1; cases h2; exact r
  | _, _, i + 1, _, _, .cons _ t, h1, h2 => t.get (i := i) h1 h2
theorem All2.of : ∀ {as : List α} {bs : List β}, as.length = bs.length → (∀ (i : Nat) (a : α) (b : β), as[i]? = some a → bs[i]? = some b → R a b) → All2 R as bs
  | [], [], _, _ => .nil
  | a :: as, b :: bs, hl, h => .cons (h 0 a b rfl rfl) (All2.of (Nat.succ.inj hl) fun i x y h1 h2 => h (i + 1) x y h1 h2)
end
theorem MAt.parts {G : Hp} {v : V} {so : So} {w : List Nat} {ts : List Mt} {b : Bool} (h : MAt G v (.mk so w ts b)) : ∃ (a p : Addr) (vs : List V), v = .ref a ∧ G a = some (.tup [.str so.s, .str (S w), .ref p, .bl b]) ∧ G p = some (.tup vs) ∧ All2 (MAt G) vs ts := by
  cases h with
  | @mk a p so w vs ts b ha hp hl h => exact ⟨a, p, vs, rfl, ha, hp, .of hl h⟩
theorem MAt.of {G : Hp} {a p : Addr} {so : So} {w : List Nat} {vs : List V} {ts : List Mt} {b : Bool} (ha : G a = some (.tup [.str so.s, .str (S w), .ref p, .bl b])) (hp : G p = some (.tup vs)) (h : All2 (MAt G) vs ts) : MAt G (.ref a) (.mk so w ts b) :=
  .mk ha hp h.len fun i v t h1 h2 => h.get h1 h2
/-! ### which terms are drawn -/
inductive IsRow : Mt → Prop where
  | mk {w : List Nat} {b : Bool} (h : NameOk (S w)) : IsRow (.mk .row w [] b)
inductive IsVal : Nat → Mt → Prop where
  | col {n : Nat} {w : List Nat} {r : Mt} (h : NameOk (S w)) (hr : IsRow r) : IsVal n (.mk .column w [r] false)
  | fn {n : Nat} {w : List Nat} {ts : List Mt} (h : NameOk (S w)) (h1 : 1 ≤ ts.length) (h3 : ts.length ≤ 3) (hs : ∀ t ∈ ts, IsVal n t) : IsVal (n + 1) (.mk .func w ts false)
theorem IsVal.up : ∀ {n m : Nat} {t : Mt}, IsVal n t → n ≤ m → IsVal m t := fun {n m t} h => by
  induction h generalizing m with
  | col h hr => exact fun _ => .col h hr
  | @fn n w ts h h1 h3 hs ih =>
    intro hm
    cases m with
    | zero => exact absurd hm (by omega)
    | succ m => exact .fn h h1 h3 fun t ht => ih t ht (by omega)
inductive IsTerm : Mt → Prop where
  | row {t : Mt} (h : IsRow t) : IsTerm t
  | place {r : Mt} (h : IsRow r) : IsTerm (.mk .place [] [r] false)
  | zero : IsTerm (.mk .zero [] [] false)
  | val {t : Mt} (h : IsVal 8 t) : IsTerm t
  | rule {w : List Nat} {ts : List Mt} (h : NameOk (S w)) (h1 : 1 ≤ ts.length) (h3 : ts.length ≤ 3) (hs : ∀ t ∈ ts, IsVal 8 t) : IsTerm (.mk .rule w ts false)
/-- the four lists of names -/
def Lot (G : Hp) (v : V) : Prop := ∃ (a a0 a1 a2 a3 : Addr) (n0 n1 n2 n3 : List Str), v = .ref a ∧ G a = some (.lst [.ref a0, .ref a1, .ref a2, .ref a3]) ∧ G a0 = some (.lst (n0.map V.str)) ∧ G a1 = some (.lst (n1.map V.str)) ∧ G a2 = some (.lst (n2.map V.str)) ∧ G a3 = some (.lst (n3.map V.str)) ∧
  (n0.length = 3 ∧ n1.length = 4 ∧ n2.length = 3 ∧ n3.length = 2) ∧ ∀ x, x ∈ n0 ∨ x ∈ n1 ∨ x ∈ n2 ∨ x ∈ n3 → NameOk x
theorem Lot.same {G G' : Hp} {v : V} (h : Lot G v) (s : Same G G') : Lot G' v := by
  obtain ⟨a, a0, a1, a2, a3, n0, n1, n2, n3, h1, h2, h3, h4, h5, h6, h7⟩ := h
  exact ⟨a, a0, a1, a2, a3, n0, n1, n2, n3, h1, s _ _ h2, s _ _ h3, s _ _ h4, s _ _ h5, s _ _ h6, h7⟩
theorem at_str {ns : List Str} {k : Int} (h0 : 0 ≤ k) (h1 : k < (ns.length : Nat)) : ∃ x : Str, atI (ns.map V.str) k = some (.str (S x.cps.toList)) ∧ x ∈ ns := by
  obtain ⟨v, e, hv, _⟩ := atI_of (xs := ns.map V.str) h0 (by rw [List.length_map]; exact h1)
  obtain ⟨x, hx, rfl⟩ := List.mem_map.mp hv
  exact ⟨x, by rw [S_tl]; exact e, hx⟩
def spLot (K : PySem.W.Frag) : Sp := fun vs H Q _ => ∃ (G : Hp) (p : Addr) (n : Nat), vs = [.ref p] ∧ Ps K G H p n ∧ n ≤ 800000 ∧ ∀ (G' H' : Hp) (v : V), Step (some p) G H G' H' → Ps K G' H' p (n + 16) → Lot G' v → Q v H'
def spMod (K : PySem.W.Frag) (c : Nat) (good : Mt → Prop) : Sp := fun vs H Q _ => ∃ (G : Hp) (p : Addr) (n : Nat) (lo : V), vs = [.ref p, lo] ∧ Ps K G H p n ∧ n + 10 * c ≤ 900000 ∧ Lot G lo ∧
  ∀ (G' H' : Hp) (v : V) (m : Mt), Step (some p) G H G' H' → Ps K G' H' p (n + c) → MAt G' v m → good m → Q v H'
end Bs
namespace Pf
open PySem PySem.Spec PyProof.Rows L2 Bs SX
variable {P : Program} {w : World} {K : PySem.W.Frag} {mg : Str → Option Value} {base : Heap}
abbrev N_Llot : List Str := ["_law_pen_here", "_law_names_here"]
theorem sc_Llot : FnScope N_Llot ["_law_pen_here"] (defScope s_Llot) := ⟨rfl, rfl, rfl, by decide +kernel, rfl, by decide +kernel, by decide +kernel⟩
theorem c_Llot (T : Tx K mg) : C8.Cal P w K mg base 4 "_law_lot" (spLot K) [] := by
  obtain ⟨fd, F⟩ := f_Llot T
  have c_Ldraw := c_Ldraw (P := P) (w := w) (base := base) T
  have c_Lnames := c_Lnames (P := P) (w := w) (base := base) T
  refine mkCal F (g_law_lot T) (F.bindsN fun _ _ _ _ _ _ us hl => match us, hl with | [_], _ => rfl) .nil sc_Llot (fun vs H Q E h => ?_) (fun cdv A outer s H vs Q E hr h => ?_)
  · obtain ⟨G, p, n, rfl, _⟩ := h
    rfl
  obtain ⟨G, p, n, rfl, hP, hn, q⟩ := h
  refine ⟨_, (pss_cons (ps_set (i := 1) sc_Llot.nd rfl (Or.inl rfl) (C8.pe_c c_Lnames hr (by first | decide | omega) rfl (pa_cons (pv 0) (pa_cons pe_int pa_nil))))
    (pss_cons (ps_if (pt_cmpR op_eq (C8.pe_c c_Ldraw hr (by first | decide | omega) rfl (pa_cons (pv 0) (pa_cons pe_int pa_nil))) pe_int (nomark _)) (pss_one (ps_ret (pe_lst (pa_cons (pe_slice sl_list (pv 1) po_none (po_some pe_int)) (pa_cons (pe_slice sl_list (pv 1) po_none (po_some pe_int)) (pa_cons (pe_slice sl_list (pv 1) po_none (po_some pe_int)) (pa_cons (pe_slice sl_list (pv 1) po_none (po_some pe_int)) pa_nil))))))) pss_nil)
    (pss_one (ps_ret (pe_lst (pa_cons (pe_slice sl_list (pv 1) po_none (po_some pe_int)) (pa_cons (pe_slice sl_list (pv 1) (po_some pe_int) (po_some pe_int)) (pa_cons (pe_slice sl_list (pv 1) (po_some pe_int) (po_some pe_int)) (pa_cons (pe_slice sl_list (pv 1) (po_some pe_int) po_none) pa_nil))))))))), ?_⟩
  refine ⟨_, rfl, p, n, 12, rfl, hP.pen, by omega, by decide, fun l ws H1 k1 hl0 P1 hl1 len ok nd => ?_⟩
  refine ⟨_, rfl, p, _, 2, rfl, P1, by omega, by decide, by decide, fun d H2 k2 P2 a2 b2 => ⟨rfl, _, rfl, ?_⟩⟩
  have hlp := P1.nel hl1
  have hl2 := k2 _ _ hl1 hlp
  have s0 : Step (some p) G H G H2 := Kp.step (k1.trans k2) hP.gh hP.out fun _ => P2.there
  have p0 : Ps K G H2 p (n + 16) := (hP.step s0 P2).mono (by omega)
  match ws, len, ok, hl2 with
  | [x0, x1, x2, x3, x4, x5, x6, x7, x8, x9, x10, x11], _, ok, hl2 =>
  have fin : ∀ (q0 q1 q2 q3 q : Addr) (n0 n1 n2 n3 : List Str) (h0 : H2 q0 = none) (h1 : upd H2 q0 (.lst (n0.map V.str)) q1 = none) (h2 : upd (upd H2 q0 (.lst (n0.map V.str))) q1 (.lst (n1.map V.str)) q2 = none) (h3 : upd (upd (upd H2 q0 (.lst (n0.map V.str))) q1 (.lst (n1.map V.str))) q2 (.lst (n2.map V.str)) q3 = none)
      (h4 : upd (upd (upd (upd H2 q0 (.lst (n0.map V.str))) q1 (.lst (n1.map V.str))) q2 (.lst (n2.map V.str))) q3 (.lst (n3.map V.str)) q = none),
      (n0.length = 3 ∧ n1.length = 4 ∧ n2.length = 3 ∧ n3.length = 2) → (∀ x, x ∈ n0 ∨ x ∈ n1 ∨ x ∈ n2 ∨ x ∈ n3 → NameOk x) → Q (.ref q) (upd (upd (upd (upd (upd H2 q0 (.lst (n0.map V.str))) q1 (.lst (n1.map V.str))) q2 (.lst (n2.map V.str))) q3 (.lst (n3.map V.str))) q (.lst [.ref q0, .ref q1, .ref q2, .ref q3])) := by
    intro q0 q1 q2 q3 q' n0 n1 n2 n3 h0 h1 h2 h3 h4 hl hok
    obtain ⟨t0, r0⟩ := p0.new_ (o := .lst (n0.map V.str)) h0
    obtain ⟨t1, r1⟩ := r0.new_ (o := .lst (n1.map V.str)) h1
    obtain ⟨t2, r2⟩ := r1.new_ (o := .lst (n2.map V.str)) h2
    obtain ⟨t3, r3⟩ := r2.new_ (o := .lst (n3.map V.str)) h3
    obtain ⟨t4, r4⟩ := r3.new_ (o := .lst [.ref q0, .ref q1, .ref q2, .ref q3]) h4
    refine q _ _ (.ref q') (((((s0.trans t0).trans t1).trans t2).trans t3).trans t4) r4 ⟨q', q0, q1, q2, q3, n0, n1, n2, n3, rfl, upd_same, t4.gg _ _ (t3.gg _ _ (t2.gg _ _ (t1.gg _ _ upd_same))), t4.gg _ _ (t3.gg _ _ (t2.gg _ _ upd_same)), t4.gg _ _ (t3.gg _ _ upd_same), t4.gg _ _ upd_same, hl, hok⟩
  have kk : ∀ {H : Hp} {q : Addr} {o o' : HO}, H l = some o → H q = none → upd H q o' l = some o := fun h1 h2 => by rw [upd_ne (ne_of_none h1 h2)]; exact h1
  refine ite2 (fun _ => ?_) (fun _ => ?_)
  · refine ⟨_, rfl, _, rfl, l, _, rfl, SqL.of hl2, fun q0 h0 => ?_⟩
    refine ⟨_, rfl, _, rfl, l, _, rfl, SqL.of (kk hl2 h0), fun q1 h1 => ?_⟩
    refine ⟨_, rfl, _, rfl, l, _, rfl, SqL.of (kk (kk hl2 h0) h1), fun q2 h2 => ?_⟩
    refine ⟨_, rfl, _, rfl, l, _, rfl, SqL.of (kk (kk (kk hl2 h0) h1) h2), fun q3 h3 => ?_⟩
    refine ⟨by show 4 ≤ sizeLine; decide, fun q4 h4 => ?_⟩
    exact fin q0 q1 q2 q3 q4 [x0, x1, x2] [x0, x1, x2, x3] [x0, x1, x2] [x0, x1] h0 h1 h2 h3 h4 ⟨rfl, rfl, rfl, rfl⟩ (fun x hx => ok x (by simp at hx ⊢; grind))
  · refine ⟨_, rfl, _, rfl, l, _, rfl, SqL.of hl2, fun q0 h0 => ?_⟩
    refine ⟨_, rfl, _, rfl, _, rfl, l, _, rfl, SqL.of (kk hl2 h0), fun q1 h1 => ?_⟩
    refine ⟨_, rfl, _, rfl, _, rfl, l, _, rfl, SqL.of (kk (kk hl2 h0) h1), fun q2 h2 => ?_⟩
    refine ⟨_, rfl, _, rfl, l, _, rfl, SqL.of (kk (kk (kk hl2 h0) h1) h2), fun q3 h3 => ?_⟩
    refine ⟨by show 4 ≤ sizeLine; decide, fun q4 h4 => ?_⟩
    exact fin q0 q1 q2 q3 q4 [x0, x1, x2] [x3, x4, x5, x6] [x7, x8, x9] [x10, x11] h0 h1 h2 h3 h4 ⟨rfl, rfl, rfl, rfl⟩ (fun x hx => ok x (by simp at hx ⊢; grind))
abbrev N_Lrow : List Str := ["_law_pen_here", "_law_lot_here"]
theorem sc_Lrow : FnScope N_Lrow ["_law_pen_here", "_law_lot_here"] (defScope s_Lrow) := ⟨rfl, rfl, rfl, by decide +kernel, rfl, by decide +kernel, by decide +kernel⟩
theorem c_Lrow (T : Tx K mg) : C8.Cal P w K mg base 2 "_law_row" (spMod K 2 IsRow) [] := by
  obtain ⟨fd, F⟩ := f_Lrow T
  have c_Ldraw := c_Ldraw (P := P) (w := w) (base := base) T
  refine mkCal F (g_law_row T) (F.bindsN fun _ _ _ _ _ _ us hl => match us, hl with | [_, _], _ => rfl) .nil sc_Lrow (fun vs H Q E h => ?_) (fun cdv A outer s H vs Q E hr h => ?_)
  · obtain ⟨G, p, n, lo, rfl, _⟩ := h
    rfl
  obtain ⟨G, p, n, lo, rfl, hP, hn, hlo, q⟩ := h
  refine ⟨_, (pss_one (ps_ret (pe_tup (pa_cons pe_str (pa_cons (pe_ix (ix_listK (K := K) rfl) (pe_ix (ix_listK (K := K) rfl) (pv 1) pe_int (fun _ _ => rfl)) (C8.pe_c c_Ldraw hr (by first | decide | omega) rfl (pa_cons (pv 0) (pa_cons pe_int pa_nil))) (fun _ _ => rfl)) (pa_cons (pe_tup pa_nil) (pa_cons (pe_cmpR op_eq (C8.pe_c c_Ldraw hr (by first | decide | omega) rfl (pa_cons (pv 0) (pa_cons pe_int pa_nil))) pe_int (nomark _)) pa_nil))))))), ?_⟩
  obtain ⟨a, a0, a1, a2, a3, n0, n1, n2, n3, rfl, g, g0, g1, g2, g3, ⟨l0, l1, l2, l3⟩, ok⟩ := id hlo
  refine ⟨_, rfl, a, _, 0, .ref a0, rfl, rfl, SqL.of (hP.gh _ _ g), atI_nat (j := 0) rfl, ?_⟩
  refine ⟨_, rfl, p, n, 3, rfl, hP.pen, by omega, by decide, by decide, fun d H1 k1 P1 b1 b2 => ?_⟩
  obtain ⟨s1, p1⟩ := hP.draw k1 P1
  obtain ⟨x, hx, mx⟩ := at_str (ns := n0) b1 (by rw [l0]; exact b2)
  refine ⟨a0, _, d, _, rfl, rfl, SqL.of (s1.gh _ _ g0), hx, ?_⟩
  refine ⟨Nat.zero_le _, fun t0 h0 => ?_⟩
  obtain ⟨s2, p2⟩ := p1.new_ (o := .tup []) h0
  refine ⟨_, rfl, p, n + 1, 2, rfl, p2.pen, by omega, by decide, by decide, fun d2 H2 k2 P2 b3 b4 => ⟨rfl, ?_⟩⟩
  obtain ⟨s3, p3⟩ := p2.draw k2 P2
  refine ⟨by show 4 ≤ sizeLine; decide, fun t h => ?_⟩
  obtain ⟨s4, p4⟩ := p3.new_ (o := .tup [.str "row", .str (S x.cps.toList), .ref t0, .bl (decide (V.int d2 = V.int 0))]) h
  refine q _ _ (.ref t) (.mk .row x.cps.toList [] (decide (V.int d2 = V.int 0))) (((s1.trans s2).trans s3).trans s4) (p4.mono (by omega)) (.of (p := t0) (vs := []) upd_same (s4.gg _ _ (s3.gg _ _ upd_same)) .nil) (.mk (by rw [S_tl]; exact ok x (.inl mx)))
abbrev N_Lcolumn : List Str := ["_law_pen_here", "_law_lot_here"]
theorem sc_Lcolumn : FnScope N_Lcolumn ["_law_pen_here", "_law_lot_here"] (defScope s_Lcolumn) := ⟨rfl, rfl, rfl, by decide +kernel, rfl, by decide +kernel, by decide +kernel⟩
theorem c_Lcolumn (T : Tx K mg) : C8.Cal P w K mg base 3 "_law_column" (spMod K 3 (IsVal 0)) [] := by
  obtain ⟨fd, F⟩ := f_Lcolumn T
  have c_Ldraw := c_Ldraw (P := P) (w := w) (base := base) T
  have c_Lrow := c_Lrow (P := P) (w := w) (base := base) T
  refine mkCal F (g_law_column T) (F.bindsN fun _ _ _ _ _ _ us hl => match us, hl with | [_, _], _ => rfl) .nil sc_Lcolumn (fun vs H Q E h => ?_) (fun cdv A outer s H vs Q E hr h => ?_)
  · obtain ⟨G, p, n, lo, rfl, _⟩ := h
    rfl
  obtain ⟨G, p, n, lo, rfl, hP, hn, hlo, q⟩ := h
  refine ⟨_, (pss_one (ps_ret (pe_tup (pa_cons pe_str (pa_cons (pe_ix (ix_listK (K := K) rfl) (pe_ix (ix_listK (K := K) rfl) (pv 1) pe_int (fun _ _ => rfl)) (C8.pe_c c_Ldraw hr (by first | decide | omega) rfl (pa_cons (pv 0) (pa_cons pe_int pa_nil))) (fun _ _ => rfl)) (pa_cons (pe_tup (pa_cons (C8.pe_c c_Lrow hr (by first | decide | omega) rfl (pa_cons (pv 0) (pa_cons (pv 1) pa_nil))) pa_nil)) (pa_cons pe_bl pa_nil))))))), ?_⟩
  obtain ⟨a, a0, a1, a2, a3, n0, n1, n2, n3, rfl, g, g0, g1, g2, g3, ⟨l0, l1, l2, l3⟩, ok⟩ := id hlo
  refine ⟨_, rfl, a, _, 1, .ref a1, rfl, rfl, SqL.of (hP.gh _ _ g), atI_nat (j := 1) rfl, ?_⟩
  refine ⟨_, rfl, p, n, 4, rfl, hP.pen, by omega, by decide, by decide, fun d H1 k1 P1 b1 b2 => ?_⟩
  obtain ⟨s1, p1⟩ := hP.draw k1 P1
  obtain ⟨x, hx, mx⟩ := at_str (ns := n1) b1 (by rw [l1]; exact b2)
  refine ⟨a1, _, d, _, rfl, rfl, SqL.of (s1.gh _ _ g1), hx, ?_⟩
  refine ⟨_, rfl, _, rfl, G, p, n + 1, _, rfl, p1, by omega, hlo.same s1.gg, fun G2 H2 v m s2 p2 hm hr' => ?_⟩
  refine ⟨by show 1 ≤ sizeLine; decide, fun t0 h0 => ?_⟩
  obtain ⟨s3, p3⟩ := p2.new_ (o := .tup [v]) h0
  refine ⟨by show 4 ≤ sizeLine; decide, fun t h => ?_⟩
  obtain ⟨s4, p4⟩ := p3.new_ (o := .tup [.str "column", .str (S x.cps.toList), .ref t0, .bl false]) h
  exact q _ _ (.ref t) (.mk .column x.cps.toList [m] false) (((s1.trans s2).trans s3).trans s4) (p4.mono (by omega)) (.of (p := t0) (vs := [v]) upd_same (s4.gg _ _ upd_same) (.cons (hm.same (s3.gg.trans s4.gg)) .nil)) (.col (by rw [S_tl]; exact ok x (.inr (.inl mx))) hr')
end Pf
namespace Bs
open PySem PySem.Spec PyProof.Rows L2 SX
variable {P : Program} {w : World} {K : PySem.W.Frag} {mg : Str → Option Value} {base : Heap}
/-- how many rows there are in a term, each as often as it stands there -/
def rc : Mt → Nat
  | .mk so _ ts _ => if so = .row then 1 else (ts.map rc).sum
theorem rc_mk (so : So) (w : List Nat) (ts : List Mt) (b : Bool) : rc (.mk so w ts b) = if so = .row then 1 else (ts.map rc).sum := by rw [rc]
theorem rc_row {t : Mt} (h : IsRow t) : rc t = 1 := by
  cases h with
  | mk h => rw [rc_mk, if_pos rfl]
theorem rc_col {t : Mt} (h : IsVal 0 t) : rc t = 1 := by
  cases h with
  | col h hr =>
    rw [rc_mk, if_neg (by decide)]
    simp only [List.map_cons, List.map_nil, List.sum_cons, List.sum_nil]
    have := rc_row hr
    omega
def spVal (K : PySem.W.Frag) : Sp := fun vs H Q _ => ∃ (G : Hp) (p : Addr) (n : Nat) (lo : V) (lv : Nat), vs = [.ref p, lo, .int (lv : Nat)] ∧ Ps K G H p n ∧ n ≤ 890000 ∧ lv ≤ 7 ∧ Lot G lo ∧
  ∀ (G' H' : Hp) (v : V) (m : Mt), Step (some p) G H G' H' → Ps K G' H' p (n + 115) → MAt G' v m → IsVal 8 m → rc m ≤ 15 → Q v H'
theorem Ps.put {G H : Hp} {p q : Addr} {n : Nat} {o : HO} {xs : List V} (a : Ps K G H p n) (h : H q = some (.lst xs)) (gq : G q = none) : Ps K G (upd H q o) p n := ⟨Same.off a.gh gq, a.out, a.pen.put h⟩
theorem MAts.same {G G' : Hp} (s : Same G G') {vs : List V} {ts : List Mt} (h : All2 (MAt G) vs ts) : All2 (MAt G') vs ts := h.mono fun _ _ r => r.same s
end Bs
namespace Pf
open PySem PySem.Spec PyProof.Rows L2 Bs SX
variable {P : Program} {w : World} {K : PySem.W.Frag} {mg : Str → Option Value} {base : Heap}
abbrev N_Lvalue : List Str := ["_law_pen_here", "_law_lot_here", "_law_levels", "_law_value_here", "_law_k", "_law_parts", "_law_turn", "_law_more"]
theorem sc_Lvalue : FnScope N_Lvalue ["_law_pen_here", "_law_lot_here", "_law_levels"] (defScope s_Lvalue) := ⟨rfl, rfl, rfl, by decide +kernel, rfl, by decide +kernel, by decide +kernel⟩
theorem c_Lvalue (T : Tx K mg) : C8.Cal P w K mg base 4 "_law_value" (spVal K) [] := by
  obtain ⟨fd, F⟩ := f_Lvalue T
  have c_Ldraw := c_Ldraw (P := P) (w := w) (base := base) T
  have c_Lcolumn := c_Lcolumn (P := P) (w := w) (base := base) T
  refine mkCal F (g_law_value T) (F.bindsN fun _ _ _ _ _ _ us hl => match us, hl with | [_, _, _], _ => rfl) .nil sc_Lvalue (fun vs H Q E h => ?_) (fun cdv A outer s H vs Q E hr h => ?_)
  · obtain ⟨G, p, n, lo, lv, rfl, _⟩ := h
    rfl
  obtain ⟨G, p, n, lo, lv, rfl, hP, hn, hlv, hlo, q⟩ := h
  have sl : sizeLine = 16777216 := rfl
  refine ⟨_, (pss_cons (ps_set (i := 3) sc_Lvalue.nd rfl (Or.inl rfl) (C8.pe_c c_Lcolumn hr (by first | decide | omega) rfl (pa_cons (pv 0) (pa_cons (pv 1) pa_nil))))
    (pss_cons (ps_for PassesOwn.never rfl (pi_range1 (by rfl) (z_range T) (pa_cons (pv 2) pa_nil)) (pg_name (i := 4) sc_Lvalue.nd rfl (Or.inl rfl)) (pss_cons (ps_set (i := 5) sc_Lvalue.nd rfl (Or.inl rfl) (pe_lst (pa_cons (pv 3) pa_nil)))
    (pss_cons (ps_for PassesOwn.never rfl (pi_range1 (by rfl) (z_range T) (pa_cons (C8.pe_c c_Ldraw hr (by first | decide | omega) rfl (pa_cons (pv 0) (pa_cons pe_int pa_nil))) pa_nil)) (pg_name (i := 6) sc_Lvalue.nd rfl (Or.inl rfl)) (pss_cons (ps_set (i := 7) sc_Lvalue.nd rfl (Or.inl rfl) (C8.pe_c c_Lcolumn hr (by first | decide | omega) rfl (pa_cons (pv 0) (pa_cons (pv 1) pa_nil))))
    (C8.pss_cut (ps_if (PW.pt (pw_and (pt_cmpR op_lt (pv 2) pe_int (nomark _)) (pw_and1 (pt_cmpR op_eq (C8.pe_c c_Ldraw hr (by first | decide | omega) rfl (pa_cons (pv 0) (pa_cons pe_int pa_nil))) pe_int (nomark _))))) (pss_one (ps_set (i := 7) sc_Lvalue.nd rfl (Or.inl rfl) (pe_tup (pa_cons pe_str (pa_cons (pe_ix (ix_listK (K := K) rfl) (pe_ix (ix_listK (K := K) rfl) (pv 1) pe_int (fun _ _ => rfl)) (C8.pe_c c_Ldraw hr (by first | decide | omega) rfl (pa_cons (pv 0) (pa_cons pe_int pa_nil))) (fun _ _ => rfl)) (pa_cons (pe_tup (pa_cons (pv 7) pa_nil)) (pa_cons pe_bl pa_nil))))))) pss_nil)
    (pss_one (ps_expr (pe_bm PySem.F.plainAttrs_list PySem.F.slot_list_insert PySem.F.type_list_insert mt_insert (pv 5) (pa_cons (C8.pe_c c_Ldraw hr (by first | decide | omega) rfl (pa_cons (pv 0) (pa_cons (pe_op op_add (pe_callB (call_len_seqK (K := K) rfl) (by rfl) (z_len T) boot_len (pa_cons (pv 5) pa_nil)) pe_int) pa_nil))) (pa_cons (pv 7) pa_nil))))))))
    (pss_one (ps_set (i := 3) sc_Lvalue.nd rfl (Or.inl rfl) (pe_tup (pa_cons pe_str (pa_cons (pe_ix (ix_listK (K := K) rfl) (pe_ix (ix_listK (K := K) rfl) (pv 1) pe_int (fun _ _ => rfl)) (C8.pe_c c_Ldraw hr (by first | decide | omega) rfl (pa_cons (pv 0) (pa_cons pe_int pa_nil))) (fun _ _ => rfl)) (pa_cons (pe_callTy call_tuple_of (by rfl) (z_tuple T) boot_tuple (pa_cons (pv 5) pa_nil)) (pa_cons pe_bl pa_nil))))))))))
    (pss_one (ps_ret (pv 3))))), ?_⟩
  refine ⟨_, rfl, _, rfl, G, p, n, lo, rfl, hP, by omega, hlo, fun G1 H1 v1 m1 s1 p1 hm1 hv1 => ?_⟩
  refine ⟨_, rfl, (lv : Int), rfl, by omega, by omega, ?_⟩
  refine for_range (lo := 0) (n := ((lv : Nat) : Int).toNat) (fun j σ H' => ∃ (G' : Hp) (v : V) (m : Mt) (o4 o5 o6 o7 : Option V), σ = [some (.ref p), some lo, some (.int (lv : Nat)), some v, o4, o5, o6, o7] ∧ Step (some p) G H G' H' ∧ Ps K G' H' p (n + 3 + 16 * j) ∧ MAt G' v m ∧ IsVal (j + 1) m ∧ rc m ≤ 1 + 2 * j)
    ⟨G1, v1, m1, none, none, none, none, rfl, s1, p1, hm1, hv1.up (by omega), by rw [rc_col hv1]; omega⟩ ?_ ?_
  · rintro j σ H' hj ⟨G', v, m, o4, o5, o6, o7, rfl, s', p', hm, hv, hrc⟩
    have hj7 : j < 7 := by omega
    -- pieces = [value]
    refine ⟨_, rfl, by show 1 ≤ sizeLine; decide, fun pc hpc => ?_⟩
    have hpc0 : H pc = none := s'.free hpc
    have hpcp := p'.pen.ne hpc
    have gpc : G' pc = none := s'.gh.free hpc
    have s2 : Step (some p) G H G' (upd H' pc (.lst [v])) := s'.loc hpc0 gpc
    have p2 : Ps K G' (upd H' pc (.lst [v])) p (n + 3 + 16 * j) := p'.stepN ((Step.refl s'.gh).loc hpc gpc)
    -- for turn in range(draw(pen, 3))
    refine ⟨_, rfl, p, n + 3 + 16 * j, 3, rfl, p2.pen, by omega, by decide, by decide, fun d H3 k3 P3 a3 b3 => ⟨d, rfl, by omega, by omega, ?_⟩⟩
    obtain ⟨s3, p3⟩ := p2.draw k3 P3
    have l3 : H3 pc = some (.lst [v]) := k3 _ _ upd_same hpcp
    refine for_range (lo := 0) (n := d.toNat) (fun i σ H4 => ∃ (G4 : Hp) (vs : List V) (ts : List Mt) (o6 o7 : Option V), σ = [some (.ref p), some lo, some (.int (lv : Nat)), some v, some (.int (0 + (j : Nat))), some (.ref pc), o6, o7] ∧ Step (some p) G H G4 H4 ∧ Ps K G4 H4 p (n + 4 + 16 * j + 6 * i) ∧
        H4 pc = some (.lst vs) ∧ G4 pc = none ∧ ts.length = i + 1 ∧ All2 (MAt G4) vs ts ∧ (∀ t ∈ ts, IsVal (j + 1) t) ∧ (ts.map rc).sum ≤ 1 + 2 * j + i)
      ⟨G', [v], [m], o6, o7, rfl, s2.trans s3, p3.mono (by omega), l3, gpc, rfl, .cons hm .nil, fun t ht => by rw [List.mem_singleton.mp ht]; exact hv, by simp only [List.map_cons, List.map_nil, List.sum_cons, List.sum_nil]; omega⟩ ?_ ?_
    · rintro i σ H4 hi ⟨G4, vs, ts, o6, o7, rfl, s4, p4, l4, g4, ht4, hts, hvs, hsum⟩
      have hi3 : i < 2 := by omega
      -- more = column(pen, lot)
      refine ⟨_, rfl, _, rfl, G4, p, n + 4 + 16 * j + 6 * i, lo, rfl, p4, by omega, hlo.same s4.gg, fun G5 H5 v5 m5 s5 p5 hm5 hv5 => ?_⟩
      have l5 : H5 pc = some (.lst vs) := s5.kpc _ _ l4 hpcp
      have g5 : G5 pc = none := s5.out g4 (by rw [l4]; exact fun z => by cases z)
      -- if levels < 4 and draw(pen, 3) == 0
      refine ⟨fun σ' H6 => ∃ (G6 : Hp) (v6 : V) (m6 : Mt), σ' = [some (.ref p), some lo, some (.int (lv : Nat)), some v, some (.int (0 + (j : Nat))), some (.ref pc), some (.int (0 + (i : Nat))), some v6] ∧ Step (some p) G5 H5 G6 H6 ∧ Ps K G6 H6 p (n + 4 + 16 * j + 6 * i + 5) ∧ MAt G6 v6 m6 ∧ IsVal 1 m6 ∧ rc m6 ≤ 1, ?_, ?_⟩
      · refine ⟨_, rfl, _, _, rfl, rfl, _, rfl, ?_⟩
        refine ite2 (fun _ => ?_) (fun _ => iteF ⟨G5, v5, m5, rfl, Step.refl s5.gh, p5.mono (by omega), hm5, hv5.up (by omega), Nat.le_of_eq (rc_col hv5)⟩)
        refine ⟨_, rfl, p, n + 4 + 16 * j + 6 * i + 3, 3, rfl, p5.pen, by omega, by decide, by decide, fun d6 H6 k6 P6 a6 b6 => ⟨rfl, _, rfl, ?_⟩⟩
        obtain ⟨s6, p6⟩ := p5.draw k6 P6
        refine ite2 (fun _ => ?_) (fun _ => ⟨G5, v5, m5, rfl, s6, p6.mono (by omega), hm5, hv5.up (by omega), Nat.le_of_eq (rc_col hv5)⟩)
        obtain ⟨a, a0, a1, a2, a3', n0, n1, n2, n3, rfl, g, g0, g1, g2, g3, ⟨l0, l1, l2, l3'⟩, ok⟩ := id (hlo.same (s4.gg.trans s5.gg))
        refine ⟨_, rfl, a, _, 2, .ref a2, rfl, rfl, SqL.of (s6.gh _ _ g), atI_nat (j := 2) rfl, ?_⟩
        refine ⟨_, rfl, p, n + 4 + 16 * j + 6 * i + 3 + 1, 3, rfl, p6.pen, by omega, by decide, by decide, fun d7 H7 k7 P7 a7 b7 => ?_⟩
        obtain ⟨s7, p7⟩ := p6.draw k7 P7
        obtain ⟨x, hx, mx⟩ := at_str (ns := n2) a7 (by rw [l2]; exact b7)
        refine ⟨a2, _, d7, _, rfl, rfl, SqL.of (s7.gh _ _ g2), hx, ?_⟩
        refine ⟨_, rfl, by show 1 ≤ sizeLine; decide, fun t0 h0 => ?_⟩
        obtain ⟨s8, p8⟩ := p7.new_ (o := .tup [v5]) h0
        refine ⟨by show 4 ≤ sizeLine; decide, fun t h => ?_⟩
        obtain ⟨s9, p9⟩ := p8.new_ (o := .tup [.str "function", .str (S x.cps.toList), .ref t0, .bl false]) h
        exact ⟨_, _, .mk .func x.cps.toList [m5] false, rfl, ((s6.trans s7).trans s8).trans s9, p9.mono (by omega), .of (p := t0) (vs := [v5]) upd_same (s9.gg _ _ upd_same) (.cons (hm5.same (s8.gg.trans s9.gg)) .nil),
          .fn (by rw [S_tl]; exact ok x (.inr (.inr (.inl mx)))) (by simp) (by simp) fun u hu => by rw [List.mem_singleton.mp hu]; exact hv5, by rw [rc_mk, if_neg (by decide)]; simp only [List.map_cons, List.map_nil, List.sum_cons, List.sum_nil]; have := rc_col hv5; omega⟩
      rintro σ' H6 ⟨G6, v6, m6, rfl, s6, p6, hm6, hv6, hc6⟩
      have l6 : H6 pc = some (.lst vs) := s6.kpc _ _ l5 hpcp
      have g6 : G6 pc = none := s6.out g5 (by rw [l5]; exact fun z => by cases z)
      have hvl : vs.length = i + 1 := by rw [hts.len]; exact ht4
      -- pieces.insert(draw(pen, len(pieces) + 1), more)
      refine ⟨_, rfl, .inl ⟨rfl, _, SqL.of l6⟩, _, rfl, _, rfl, pc, _, rfl, .inl (SqL.of l6), _, _, rfl, rfl, p, n + 4 + 16 * j + 6 * i + 5, ((vs.length : Nat) : Int) + 1, rfl, p6.pen, by omega, by omega, by omega, fun d7 H7 k7 P7 a7 b7 => ?_⟩
      obtain ⟨s7, p7⟩ := p6.draw k7 P7
      have l7 : H7 pc = some (.lst vs) := k7 _ _ l6 hpcp
      have sAll := ((s4.trans s5).trans s6).trans s7
      refine ⟨_, rfl, pc, vs, d7, v6, rfl, rfl, l7, by omega, a7, by omega, ?_⟩
      refine ⟨G6, vs.take d7.toNat ++ [v6] ++ vs.drop d7.toNat, ts.take d7.toNat ++ [m6] ++ ts.drop d7.toNat, _, _, rfl, sAll.loc hpc0 g6, (p7.put l7 g6).mono (by omega), upd_same, g6, ?_, ?_, ?_, ?_⟩
      · simp only [List.length_append, List.length_take, List.length_drop, List.length_singleton]; omega
      · have h6 := MAts.same (s5.gg.trans s6.gg) hts
        exact ((h6.tak _).app (.cons hm6 .nil)).app (h6.drp _)
      · intro t ht
        rw [List.mem_append, List.mem_append, List.mem_singleton] at ht
        rcases ht with (ht | ht) | ht
        · exact hvs t (List.mem_of_mem_take ht)
        · rw [ht]; exact hv6.up (by omega)
        · exact hvs t (List.mem_of_mem_drop ht)
      · have e : (ts.map rc).sum = ((ts.take d7.toNat).map rc).sum + ((ts.drop d7.toNat).map rc).sum := by
          rw [← List.sum_append, ← List.map_append, List.take_append_drop]
        simp only [List.map_append, List.sum_append, List.map_cons, List.map_nil, List.sum_cons, List.sum_nil]
        omega
    · rintro σ H4 ⟨G4, vs, ts, o6, o7, rfl, s4, p4, l4, g4, ht4, hts, hvs, hsum⟩
      have ed : ts.length = d.toNat + 1 := ht4
      obtain ⟨a, a0, a1, a2, a3', n0, n1, n2, n3, rfl, g, g0, g1, g2, g3, ⟨l0, l1, l2, l3'⟩, ok⟩ := id (hlo.same s4.gg)
      refine ⟨_, rfl, a, _, 2, .ref a2, rfl, rfl, SqL.of (s4.gh _ _ g), atI_nat (j := 2) rfl, ?_⟩
      refine ⟨_, rfl, p, n + 4 + 16 * j + 6 * d.toNat, 3, rfl, p4.pen, by omega, by decide, by decide, fun d7 H7 k7 P7 a7 b7 => ?_⟩
      obtain ⟨s7, p7⟩ := p4.draw k7 P7
      obtain ⟨x, hx, mx⟩ := at_str (ns := n2) a7 (by rw [l2]; exact b7)
      refine ⟨a2, _, d7, _, rfl, rfl, SqL.of (s7.gh _ _ g2), hx, ?_⟩
      have l7 : H7 pc = some (.lst vs) := k7 _ _ l4 hpcp
      refine ⟨_, rfl, pc, vs, rfl, .inl ⟨SqL.of l7, fun t0 h0 => ?_⟩⟩
      obtain ⟨s8, p8⟩ := p7.new_ (o := .tup vs) h0
      refine ⟨by show 4 ≤ sizeLine; decide, fun t h => ?_⟩
      obtain ⟨s9, p9⟩ := p8.new_ (o := .tup [.str "function", .str (S x.cps.toList), .ref t0, .bl false]) h
      exact ⟨_, _, .mk .func x.cps.toList ts false, _, _, _, _, rfl, ((s4.trans s7).trans s8).trans s9, p9.mono (by omega), .of (p := t0) (vs := vs) upd_same (s9.gg _ _ upd_same) (MAts.same (s8.gg.trans s9.gg) hts),
        .fn (by rw [S_tl]; exact ok x (.inr (.inr (.inl mx)))) (by omega) (by omega) hvs, by rw [rc_mk, if_neg (by decide)]; omega⟩
  · rintro σ H' ⟨G', v, m, o4, o5, o6, o7, rfl, s', p', hm, hv, hrc⟩
    have e : ((lv : Nat) : Int).toNat = lv := by omega
    rw [e] at p' hv hrc
    exact ⟨_, rfl, q G' H' v m s' (p'.mono (by omega)) hm (hv.up (by omega)) (by omega)⟩
end Pf
namespace Bs
open PySem PySem.Spec PyProof.Rows L2 SX
variable {P : Program} {w : World} {K : PySem.W.Frag} {mg : Str → Option Value} {base : Heap}
def spTerm (K : PySem.W.Frag) : Sp := fun vs H Q _ => ∃ (G : Hp) (p : Addr) (n : Nat) (lo : V), vs = [.ref p, lo] ∧ Ps K G H p n ∧ n ≤ 880000 ∧ Lot G lo ∧
  ∀ (G' H' : Hp) (v : V) (m : Mt), Step (some p) G H G' H' → Ps K G' H' p (n + 140) → MAt G' v m → IsTerm m → rc m ≤ 20 → Q v H'
end Bs
namespace Pf
open PySem PySem.Spec PyProof.Rows L2 Bs SX
variable {P : Program} {w : World} {K : PySem.W.Frag} {mg : Str → Option Value} {base : Heap}
abbrev N_Lterm : List Str := ["_law_pen_here", "_law_lot_here", "_law_kind", "_law_levels", "_law_parts", "_law_turn"]
theorem sc_Lterm : FnScope N_Lterm ["_law_pen_here", "_law_lot_here"] (defScope s_Lterm) := ⟨rfl, rfl, rfl, by decide +kernel, rfl, by decide +kernel, by decide +kernel⟩
theorem c_Lterm (T : Tx K mg) : C8.Cal P w K mg base 5 "_law_term" (spTerm K) [] := by
  obtain ⟨fd, F⟩ := f_Lterm T
  have c_Ldraw := c_Ldraw (P := P) (w := w) (base := base) T
  have c_Lrow := c_Lrow (P := P) (w := w) (base := base) T
  have c_Lcolumn := c_Lcolumn (P := P) (w := w) (base := base) T
  have c_Lvalue := c_Lvalue (P := P) (w := w) (base := base) T
  refine mkCal F (g_law_term T) (F.bindsN fun _ _ _ _ _ _ us hl => match us, hl with | [_, _], _ => rfl) .nil sc_Lterm (fun vs H Q E h => ?_) (fun cdv A outer s H vs Q E hr h => ?_)
  · obtain ⟨G, p, n, lo, rfl, _⟩ := h
    rfl
  obtain ⟨G, p, n, lo, rfl, hP, hn, hlo, q⟩ := h
  have sl : sizeLine = 16777216 := rfl
  have e0 : ("" : Str) = S [] := by decide +kernel
  refine ⟨_, (pss_cons (ps_set (i := 2) sc_Lterm.nd rfl (Or.inl rfl) (C8.pe_c c_Ldraw hr (by first | decide | omega) rfl (pa_cons (pv 0) (pa_cons pe_int pa_nil))))
    (pss_cons (ps_set (i := 3) sc_Lterm.nd rfl (Or.inl rfl) (pe_ix (ix_listK (K := K) rfl) (pe_lst (pa_cons pe_int (pa_cons pe_int (pa_cons pe_int (pa_cons pe_int (pa_cons pe_int (pa_cons pe_int pa_nil))))))) (C8.pe_c c_Ldraw hr (by first | decide | omega) rfl (pa_cons (pv 0) (pa_cons pe_int pa_nil))) (fun _ _ => rfl)))
    (pss_cons (ps_if (pt_cmpR op_eq (pv 2) pe_int (nomark _)) (pss_one (ps_ret (C8.pe_c c_Lrow hr (by first | decide | omega) rfl (pa_cons (pv 0) (pa_cons (pv 1) pa_nil))))) pss_nil)
    (pss_cons (ps_if (pt_cmpR op_eq (pv 2) pe_int (nomark _)) (pss_one (ps_ret (pe_tup (pa_cons pe_str (pa_cons pe_str (pa_cons (pe_tup (pa_cons (C8.pe_c c_Lrow hr (by first | decide | omega) rfl (pa_cons (pv 0) (pa_cons (pv 1) pa_nil))) pa_nil)) (pa_cons pe_bl pa_nil))))))) pss_nil)
    (pss_cons (ps_if (pt_cmpR op_eq (pv 2) pe_int (nomark _)) (pss_one (ps_ret (pe_tup (pa_cons pe_str (pa_cons pe_str (pa_cons (pe_tup pa_nil) (pa_cons pe_bl pa_nil))))))) pss_nil)
    (pss_cons (ps_if (pt_cmpR op_gt (pv 2) pe_int (nomark _)) (pss_one (ps_ret (C8.pe_c c_Lvalue hr (by first | decide | omega) rfl (pa_cons (pv 0) (pa_cons (pv 1) (pa_cons (pv 3) pa_nil)))))) pss_nil)
    (pss_cons (ps_set (i := 4) sc_Lterm.nd rfl (Or.inl rfl) (pe_lst (pa_cons (C8.pe_c c_Lvalue hr (by first | decide | omega) rfl (pa_cons (pv 0) (pa_cons (pv 1) (pa_cons (pv 3) pa_nil)))) pa_nil)))
    (pss_cons (ps_for PassesOwn.never rfl (pi_range1 (by rfl) (z_range T) (pa_cons (C8.pe_c c_Ldraw hr (by first | decide | omega) rfl (pa_cons (pv 0) (pa_cons (pe_ix (ix_listK (K := K) rfl) (pe_lst (pa_cons pe_int (pa_cons pe_int pa_nil))) (pe_callTy call_int1 (by rfl) (z_int T) boot_int (pa_cons (pe_cmpR op_gt (pv 3) pe_int (nomark _)) pa_nil)) (fun _ _ => rfl)) pa_nil))) pa_nil)) (pg_name (i := 5) sc_Lterm.nd rfl (Or.inl rfl)) (pss_one (ps_expr (pe_bm PySem.F.plainAttrs_list PySem.F.slot_list_insert PySem.F.type_list_insert mt_insert (pv 4) (pa_cons (C8.pe_c c_Ldraw hr (by first | decide | omega) rfl (pa_cons (pv 0) (pa_cons (pe_op op_add (pe_callB (call_len_seqK (K := K) rfl) (by rfl) (z_len T) boot_len (pa_cons (pv 4) pa_nil)) pe_int) pa_nil))) (pa_cons (C8.pe_c c_Lcolumn hr (by first | decide | omega) rfl (pa_cons (pv 0) (pa_cons (pv 1) pa_nil))) pa_nil))))))
    (pss_one (ps_ret (pe_tup (pa_cons pe_str (pa_cons (pe_ix (ix_listK (K := K) rfl) (pe_ix (ix_listK (K := K) rfl) (pv 1) pe_int (fun _ _ => rfl)) (C8.pe_c c_Ldraw hr (by first | decide | omega) rfl (pa_cons (pv 0) (pa_cons pe_int pa_nil))) (fun _ _ => rfl)) (pa_cons (pe_callTy call_tuple_of (by rfl) (z_tuple T) boot_tuple (pa_cons (pv 4) pa_nil)) (pa_cons pe_bl pa_nil))))))))))))))), ?_⟩
  refine ⟨_, rfl, p, n, 8, rfl, hP.pen, by omega, by decide, by decide, fun so H1 k1 P1 a1 b1 => ?_⟩
  obtain ⟨s1, p1⟩ := hP.draw k1 P1
  refine ⟨by show 6 ≤ sizeLine; decide, fun l hl => ?_⟩
  obtain ⟨s2, p2⟩ := p1.new_ (o := .lst (([0, 0, 1, 2, 3, 7] : List Int).map V.int)) hl
  refine ⟨_, rfl, p, n + 1, 6, rfl, p2.pen, by omega, by decide, by decide, fun d H2 k2 P2 a2 b2 => ?_⟩
  obtain ⟨s3, p3⟩ := p2.draw k2 P2
  obtain ⟨lvi, hlv, mlv⟩ := atI_int (ns := [0, 0, 1, 2, 3, 7]) a2 b2
  have blv : 0 ≤ lvi ∧ lvi ≤ 7 := by
    simp only [List.mem_cons, List.mem_nil_iff, or_false] at mlv
    omega
  obtain ⟨lv, rfl⟩ : ∃ k : Nat, lvi = (k : Nat) := ⟨lvi.toNat, by omega⟩
  refine ⟨l, ([0, 0, 1, 2, 3, 7] : List Int).map V.int, d, .int (lv : Nat), rfl, rfl, SqL.of (s3.gh _ _ upd_same), hlv, ?_⟩
  have st := (s1.trans s2).trans s3
  have ps : Ps K (upd G l (.lst (([0, 0, 1, 2, 3, 7] : List Int).map V.int))) H2 p (n + 2) := p3.mono (by omega)
  have hlo' := hlo.same st.gg
  generalize upd G l (.lst (([0, 0, 1, 2, 3, 7] : List Int).map V.int)) = G1 at st ps hlo'
  clear s1 s2 s3 p1 p2 p3
  -- sort == 0
  refine ⟨_, rfl, rfl, _, rfl, ite2 (fun _ => ?_) (fun _ => ?_)⟩
  · exact ⟨_, rfl, _, rfl, G1, p, n + 2, lo, rfl, ps, by omega, hlo', fun G2 H3 v m s p' hm hv => q G2 H3 v m (st.trans s) (p'.mono (by omega)) hm (.row hv) (by rw [rc_row hv]; decide)⟩
  -- sort == 1
  refine ⟨_, rfl, rfl, _, rfl, ite2 (fun _ => ?_) (fun _ => ?_)⟩
  · refine ⟨_, rfl, _, rfl, G1, p, n + 2, lo, rfl, ps, by omega, hlo', fun G2 H3 v m s p' hm hv => ?_⟩
    refine ⟨by show 1 ≤ sizeLine; decide, fun t0 h0 => ?_⟩
    obtain ⟨s8, p8⟩ := p'.new_ (o := .tup [v]) h0
    refine ⟨by show 4 ≤ sizeLine; decide, fun t h => ?_⟩
    obtain ⟨s9, p9⟩ := p8.new_ (o := .tup [.str "place", .str "", .ref t0, .bl false]) h
    exact q _ _ (.ref t) (.mk .place [] [m] false) (((st.trans s).trans s8).trans s9) (p9.mono (by omega)) (.of (p := t0) (vs := [v]) (by rw [← e0]; exact upd_same) (s9.gg _ _ upd_same) (.cons (hm.same (s8.gg.trans s9.gg)) .nil)) (.place hv) (by rw [rc_mk, if_neg (by decide)]; have := rc_row hv; simp only [List.map_cons, List.map_nil, List.sum_cons, List.sum_nil]; omega)
  -- sort == 2
  refine ⟨_, rfl, rfl, _, rfl, ite2 (fun _ => ?_) (fun _ => ?_)⟩
  · refine ⟨by show 0 ≤ sizeLine; decide, fun t0 h0 => ?_⟩
    obtain ⟨s8, p8⟩ := ps.new_ (o := .tup []) h0
    refine ⟨by show 4 ≤ sizeLine; decide, fun t h => ?_⟩
    obtain ⟨s9, p9⟩ := p8.new_ (o := .tup [.str "zero", .str "", .ref t0, .bl false]) h
    exact q _ _ (.ref t) (.mk .zero [] [] false) ((st.trans s8).trans s9) (p9.mono (by omega)) (.of (p := t0) (vs := []) (by rw [← e0]; exact upd_same) (s9.gg _ _ upd_same) .nil) .zero (by rw [rc_mk, if_neg (by decide)]; decide)
  -- sort > 4
  refine ⟨_, rfl, _, _, rfl, rfl, _, rfl, ite2 (fun _ => ?_) (fun _ => ?_)⟩
  · exact ⟨_, rfl, _, rfl, _, rfl, G1, p, n + 2, lo, lv, rfl, ps, by omega, by omega, hlo', fun G2 H3 v m s p' hm hv hrc => q G2 H3 v m (st.trans s) (p'.mono (by omega)) hm (.val hv) (by omega)⟩
  -- pieces = [value(pen, lot, levels)]
  refine ⟨_, rfl, _, rfl, _, rfl, G1, p, n + 2, lo, lv, rfl, ps, by omega, by omega, hlo', fun G2 H3 v m s p' hm hv hrc => ?_⟩
  have st3 := st.trans s
  refine ⟨by show 1 ≤ sizeLine; decide, fun pc hpc => ?_⟩
  have hpc0 : H pc = none := st3.free hpc
  have hpcp := p'.pen.ne hpc
  have gpc : G2 pc = none := st3.gh.free hpc
  have st4 : Step (some p) G H G2 (upd H3 pc (.lst [v])) := st3.loc hpc0 gpc
  have p4 : Ps K G2 (upd H3 pc (.lst [v])) p (n + 2 + 115) := p'.stepN ((Step.refl p'.gh).loc hpc gpc)
  -- for turn in range(draw(pen, [3, 2][int(levels > 3)]))
  refine ⟨_, rfl, by show 2 ≤ sizeLine; decide, fun l2 hl2 => ?_⟩
  obtain ⟨s5, p5⟩ := p4.new_ (o := .lst [.int 3, .int 2]) hl2
  have l2pc : pc ≠ l2 := ne_of_none upd_same hl2
  have g5 : (upd G2 l2 (.lst [.int 3, .int 2])) pc = none := by rw [upd_ne l2pc]; exact gpc
  have l5 : (upd (upd H3 pc (.lst [v])) l2 (.lst [.int 3, .int 2])) pc = some (.lst [v]) := by rw [upd_ne l2pc]; exact upd_same
  have two : ∃ mm : Int, (mm = 3 ∨ mm = 2) ∧ atI [V.int 3, V.int 2] (if decide ((3 : Int) < (lv : Nat)) = true then 1 else 0) = some (.int mm) := by
    split
    · exact ⟨2, .inr rfl, atI_nat (j := 1) rfl⟩
    · exact ⟨3, .inl rfl, atI_nat (j := 0) rfl⟩
  obtain ⟨mm, hmm, emm⟩ := two
  refine ⟨_, rfl, _, _, rfl, rfl, .inr ⟨_, rfl, l2, _, _, .int mm, rfl, rfl, SqL.of upd_same, emm, ?_⟩⟩
  refine ⟨p, n + 2 + 115, mm, rfl, p5.pen, by omega, by omega, by omega, fun d6 H6 k6 P6 a6 b6 => ⟨d6, rfl, by omega, by omega, ?_⟩⟩
  obtain ⟨s6, p6⟩ := p5.draw k6 P6
  have l6 := k6 _ _ l5 hpcp
  refine for_range (lo := 0) (n := d6.toNat) (fun i σ H4 => ∃ (G4 : Hp) (vs : List V) (ts : List Mt) (o5 : Option V), σ = [some (.ref p), some lo, some (.int so), some (.int (lv : Nat)), some (.ref pc), o5] ∧ Step (some p) G H G4 H4 ∧ Ps K G4 H4 p (n + 118 + 4 * i) ∧
      H4 pc = some (.lst vs) ∧ G4 pc = none ∧ ts.length = i + 1 ∧ All2 (MAt G4) vs ts ∧ (∀ t ∈ ts, IsVal 8 t) ∧ (ts.map rc).sum ≤ 15 + i)
    ⟨_, [v], [m], none, rfl, (st4.trans s5).trans s6, p6.mono (by omega), l6, g5, rfl, .cons (hm.same s5.gg) .nil, fun t ht => by rw [List.mem_singleton.mp ht]; exact hv, by simp only [List.map_cons, List.map_nil, List.sum_cons, List.sum_nil]; omega⟩ ?_ ?_
  · rintro i σ H4 hi ⟨G4, vs, ts, o5, rfl, s4, p4, l4, g4, ht4, hts, hvs, hsum⟩
    have hi3 : i < 2 := by omega
    have hvl : vs.length = i + 1 := by rw [hts.len]; exact ht4
    refine ⟨_, rfl, .inl ⟨rfl, _, SqL.of l4⟩, _, rfl, _, rfl, pc, _, rfl, .inl (SqL.of l4), _, _, rfl, rfl, p, n + 118 + 4 * i, ((vs.length : Nat) : Int) + 1, rfl, p4.pen, by omega, by omega, by omega, fun d7 H7 k7 P7 a7 b7 => ?_⟩
    obtain ⟨s7, p7⟩ := p4.draw k7 P7
    have l7 : H7 pc = some (.lst vs) := k7 _ _ l4 hpcp
    refine ⟨_, rfl, _, rfl, G4, p, n + 118 + 4 * i + 1, lo, rfl, p7, by omega, hlo.same s4.gg, fun G5 H5 v5 m5 s5 p5 hm5 hv5 => ?_⟩
    have l8 : H5 pc = some (.lst vs) := s5.kpc _ _ l7 hpcp
    have g8 : G5 pc = none := s5.out g4 (by rw [l7]; exact fun z => by cases z)
    refine ⟨pc, vs, d7, v5, rfl, rfl, l8, by omega, a7, by omega, ?_⟩
    refine ⟨G5, vs.take d7.toNat ++ [v5] ++ vs.drop d7.toNat, ts.take d7.toNat ++ [m5] ++ ts.drop d7.toNat, _, rfl, ((s4.trans s7).trans s5).loc hpc0 g8, (p5.put l8 g8).mono (by omega), upd_same, g8, ?_, ?_, ?_, ?_⟩
    · simp only [List.length_append, List.length_take, List.length_drop, List.length_singleton]; omega
    · have h6 := MAts.same s5.gg hts
      exact ((h6.tak _).app (.cons hm5 .nil)).app (h6.drp _)
    · intro t ht
      rw [List.mem_append, List.mem_append, List.mem_singleton] at ht
      rcases ht with (ht | ht) | ht
      · exact hvs t (List.mem_of_mem_take ht)
      · rw [ht]; exact hv5.up (by omega)
      · exact hvs t (List.mem_of_mem_drop ht)
    · have e : (ts.map rc).sum = ((ts.take d7.toNat).map rc).sum + ((ts.drop d7.toNat).map rc).sum := by
        rw [← List.sum_append, ← List.map_append, List.take_append_drop]
      have := rc_col hv5
      simp only [List.map_append, List.sum_append, List.map_cons, List.map_nil, List.sum_cons, List.sum_nil]
      omega
  · rintro σ H4 ⟨G4, vs, ts, o5, rfl, s4, p4, l4, g4, ht4, hts, hvs, hsum⟩
    obtain ⟨a, a0, a1', a2', a3, n0, n1, n2, n3, rfl, g, g0, g1, g2, g3, ⟨l0, l1, l2', l3⟩, ok⟩ := id (hlo.same s4.gg)
    refine ⟨_, rfl, a, _, 3, .ref a3, rfl, rfl, SqL.of (s4.gh _ _ g), atI_nat (j := 3) rfl, ?_⟩
    refine ⟨_, rfl, p, n + 118 + 4 * d6.toNat, 2, rfl, p4.pen, by omega, by decide, by decide, fun d7 H7 k7 P7 a7 b7 => ?_⟩
    obtain ⟨s7, p7⟩ := p4.draw k7 P7
    obtain ⟨x, hx, mx⟩ := at_str (ns := n3) a7 (by rw [l3]; exact b7)
    refine ⟨a3, _, d7, _, rfl, rfl, SqL.of (s7.gh _ _ g3), hx, ?_⟩
    have l7 : H7 pc = some (.lst vs) := k7 _ _ l4 hpcp
    refine ⟨_, rfl, pc, vs, rfl, .inl ⟨SqL.of l7, fun t0 h0 => ?_⟩⟩
    obtain ⟨s8, p8⟩ := p7.new_ (o := .tup vs) h0
    refine ⟨by show 4 ≤ sizeLine; decide, fun t h => ?_⟩
    obtain ⟨s9, p9⟩ := p8.new_ (o := .tup [.str "rule", .str (S x.cps.toList), .ref t0, .bl false]) h
    exact q _ _ (.ref t) (.mk .rule x.cps.toList ts false) (((s4.trans s7).trans s8).trans s9) (p9.mono (by omega)) (.of (p := t0) (vs := vs) upd_same (s9.gg _ _ upd_same) (MAts.same (s8.gg.trans s9.gg) hts))
      (.rule (by rw [S_tl]; exact ok x (.inr (.inr (.inr mx)))) (by omega) (by omega) hvs) (by rw [rc_mk, if_neg (by decide)]; omega)
end Pf
namespace Bs
open PySem PySem.Spec PyProof.Rows L2 SX
variable {P : Program} {w : World} {K : PySem.W.Frag} {mg : Str → Option Value} {base : Heap}
/-! ### a term's shape, through and through, so many levels deep -/
structure Sh2 (so : So) (w : List Nat) (ts : List Mt) (b : Bool) : Prop where
  sh : Shp so w ts
  fl : so ≠ .row → b = false
  leaf : so = .row ∨ so = .zero → ts = []
  one : so = .column ∨ so = .place → ∃ (w' : List Nat) (b' : Bool), ts = [.mk .row w' [] b'] ∧ w'.length ≤ 8
  nil : so = .zero ∨ so = .place → w = []
  more : so = .func ∨ so = .rule → 1 ≤ ts.length
inductive Wt : Nat → Mt → Prop where
  | mk {n : Nat} {so : So} {w : List Nat} {ts : List Mt} {b : Bool} (h : Sh2 so w ts b) (hs : ∀ t ∈ ts, Wt n t) : Wt (n + 1) (.mk so w ts b)
theorem NameOk.len8 {w : List Nat} (h : NameOk (S w)) : w.length ≤ 8 := h.1.len
theorem row_len {t : Mt} (h : IsRow t) : t.txt.length ≤ 9 := by
  cases h with
  | mk h =>
    rw [Mt.txt_mk]
    unfold tx
    have := h.len8
    simp only
    split
    · rw [List.length_append, List.length_singleton]; omega
    · omega
theorem row_wt {n : Nat} {t : Mt} (h : IsRow t) : Wt (n + 1) t := by
  cases h with
  | mk h => exact .mk ⟨⟨h.len8, by simp, (fun _ h => by cases h), (fun h => by rcases h with h | h <;> cases h)⟩, (fun h => absurd rfl h), fun _ => rfl, (fun h => by rcases h with h | h <;> cases h), (fun h => by rcases h with h | h <;> cases h), (fun h => by rcases h with h | h <;> cases h)⟩ (fun _ h => by cases h)
theorem row_is {t : Mt} (h : IsRow t) : ∃ (w' : List Nat) (b' : Bool), [t] = [Mt.mk .row w' [] b'] ∧ w'.length ≤ 8 := by
  cases h with
  | @mk w b h => exact ⟨w, b, rfl, h.len8⟩
theorem val_len : ∀ {n : Nat} {t : Mt}, IsVal n t → t.txt.length + 8 ≤ 30 * 3 ^ n := fun {n t} h => by
  induction h with
  | @col n w r h hr =>
    have h1 := h.len8
    have h2 := row_len hr
    have h3 : 1 ≤ 3 ^ n := Nat.one_le_pow n 3 (by decide)
    rw [Mt.txt_mk]
    show (([r].map Mt.txt).headD [] ++ [46] ++ w).length + 8 ≤ _
    simp only [List.map_cons, List.map_nil, List.headD_cons, List.length_append, List.length_singleton]
    omega
  | @fn n w ts h h1 h3 hs ih =>
    have hw := h.len8
    rw [Mt.txt_mk]
    show (w ++ [40] ++ TL.joinL [44, 32] (ts.map Mt.txt) ++ [41]).length + 8 ≤ _
    have sj := joinL_len [44, 32] (ts.map Mt.txt)
    have ss : ((ts.map Mt.txt).map List.length).sum ≤ (ts.map Mt.txt).length * (30 * 3 ^ n - 8) := sum_le fun x hx => by
      obtain ⟨t, ht, rfl⟩ := List.mem_map.mp hx
      have := ih t ht
      omega
    have h4 : (ts.map Mt.txt).length * (30 * 3 ^ n - 8) ≤ 3 * (30 * 3 ^ n - 8) := Nat.mul_le_mul_right _ (by rw [List.length_map]; exact h3)
    have h5 : 1 ≤ 3 ^ n := Nat.one_le_pow n 3 (by decide)
    have l2 : ([44, 32] : List Nat).length = 2 := rfl
    rw [l2, List.length_map] at sj
    simp only [List.length_append, List.length_singleton]
    rw [Nat.pow_succ]
    omega
theorem val_wt : ∀ {n : Nat} {t : Mt}, IsVal n t → n ≤ 8 → Wt (n + 2) t := fun {n t} h => by
  induction h with
  | @col n w r h hr =>
    intro _
    refine .mk ⟨⟨h.len8, by simp, (fun t ht => ?_), (fun _ h => by cases h)⟩, fun _ => rfl, (fun h => by rcases h with h | h <;> cases h), fun _ => row_is hr, (fun h => by rcases h with h | h <;> cases h), (fun h => by rcases h with h | h <;> cases h)⟩ (fun t ht => ?_)
    · rw [List.mem_singleton.mp ht]
      have := row_len hr
      omega
    · rw [List.mem_singleton.mp ht]
      exact row_wt hr
  | @fn n w ts h h1 h3 hs ih =>
    intro hn
    refine .mk ⟨⟨h.len8, h3, (fun t ht => ?_), (fun h => by rcases h with h | h <;> cases h)⟩, fun _ => rfl, (fun h => by rcases h with h | h <;> cases h), (fun h => by rcases h with h | h <;> cases h), (fun h => by rcases h with h | h <;> cases h), fun _ => h1⟩ (fun t ht => ih t ht (by omega))
    have h4 := val_len (hs t ht)
    have h5 : 3 ^ n ≤ 3 ^ 8 := Nat.pow_le_pow_right (by decide) (by omega)
    have h6 : (3 : Nat) ^ 8 = 6561 := by decide
    omega
theorem Wt.up : ∀ {n m : Nat} {t : Mt}, Wt n t → n ≤ m → Wt m t := fun {n m t} h => by
  induction h generalizing m with
  | @mk n so w ts b h hs ih =>
    intro hm
    cases m with
    | zero => exact absurd hm (by omega)
    | succ m => exact .mk h fun t ht => ih t ht (by omega)
theorem term_wt {t : Mt} (h : IsTerm t) : Wt 12 t := by
  cases h with
  | row h => exact (row_wt (n := 0) h).up (by decide)
  | @place r h =>
    refine (Wt.mk (n := 1) ⟨⟨by simp, by simp, (fun t ht => ?_), (fun _ h => by cases h)⟩, fun _ => rfl, (fun h => by rcases h with h | h <;> cases h), fun _ => row_is h, fun _ => rfl, (fun h => by rcases h with h | h <;> cases h)⟩ (fun t ht => ?_)).up (by decide)
    · rw [List.mem_singleton.mp ht]
      have := row_len h
      omega
    · rw [List.mem_singleton.mp ht]
      exact row_wt h
  | zero => exact (Wt.mk (n := 0) ⟨⟨by simp, by simp, (fun _ h => by cases h), (fun h => by rcases h with h | h <;> cases h)⟩, fun _ => rfl, fun _ => rfl, (fun h => by rcases h with h | h <;> cases h), fun _ => rfl, (fun h => by rcases h with h | h <;> cases h)⟩ (fun _ h => by cases h)).up (by decide)
  | val h => exact (val_wt h (Nat.le_refl 8)).up (by decide)
  | @rule w ts h h1 h3 hs =>
    refine (Wt.mk (n := 10) ⟨⟨h.len8, h3, (fun t ht => ?_), (fun h => by rcases h with h | h <;> cases h)⟩, fun _ => rfl, (fun h => by rcases h with h | h <;> cases h), (fun h => by rcases h with h | h <;> cases h), (fun h => by rcases h with h | h <;> cases h), fun _ => h1⟩ (fun t ht => val_wt (hs t ht) (Nat.le_refl 8))).up (by decide)
    have h4 := val_len (hs t ht)
    have h6 : (3 : Nat) ^ 8 = 6561 := by decide
    omega
def spTxt (n : Nat) : Sp := fun vs H Q _ => ∃ (G : Hp) (m : Mt) (v : V), vs = [v] ∧ Same G H ∧ MAt G v m ∧ Wt n m ∧ ∀ H' : Hp, Step none G H G H' → Q (.str (S m.txt)) H'
/-- a def that may be asked for nothing -/
theorem cal_none {nm qual x : Str} {par : Arguments} {bd : List Stmt} {sco : Scope} {ps : List Str} {sp : Sp} {a : Addr} {fd : FuncData}
    (F : FunD K nm qual par bd sco [] [] a fd) (hm : mg x = some (.ref a)) (b : Binds K fd ps []) (no : ∀ vs H Q E, ¬ sp vs H Q E) : C8.Cal P w K mg base 0 x sp [] :=
  ⟨a, fd, ps, [], ⟨fun vs H Q E h => absurd h (no vs H Q E), fun A outer s H args us vs Q E _ _ _ _ h => absurd h (no vs H Q E)⟩, hm, F.kp, b, .nil⟩
end Bs
namespace Pf
open PySem PySem.Spec PyProof.Rows L2 Bs SX
variable {P : Program} {w : World} {K : PySem.W.Frag} {mg : Str → Option Value} {base : Heap}
local macro_rules | `(tactic| walk_at "no") => `(tactic| refine ite2 (fun c => absurd (V.str.inj (of_decide_eq_true c)) (by decide +kernel)) (fun _ => ?_))
local macro_rules | `(tactic| walk_at "yes") => `(tactic| refine ite2 (fun _ => ?_) (fun c => absurd (decide_eq_true rfl) c))
abbrev N_Ltext : List Str := ["_law_model", "_law_texts", "_law_kind", "_law_name", "_law_parts", "_law_marked", "_law_part"]
theorem sc_Ltext : FnScope N_Ltext ["_law_model"] (defScope s_Ltext) := ⟨rfl, rfl, rfl, by decide +kernel, rfl, by decide +kernel, by decide +kernel⟩
theorem c_Ltext (T : Tx K mg) : ∀ n : Nat, C8.Cal P w K mg base n "_law_text" (spTxt n) []
  | 0 => by
    obtain ⟨fd, F⟩ := f_Ltext T
    exact cal_none F (g_law_text T) (F.bindsN (ps := ["_law_model"]) fun _ _ _ _ _ _ us hl => match us, hl with | [_], _ => rfl) fun vs H Q E ⟨G, m, v, _, _, _, h, _⟩ => nomatch h
  | n + 1 => by
    obtain ⟨fd, F⟩ := f_Ltext T
    have c_Ltext := c_Ltext T n
    refine mkCal F (g_law_text T) (F.bindsN fun _ _ _ _ _ _ us hl => match us, hl with | [_], _ => rfl) .nil sc_Ltext (fun vs H Q E h => ?_) (fun cdv A outer s H vs Q E hr h => ?_)
    · obtain ⟨G, m, v, rfl, _⟩ := h
      rfl
    obtain ⟨G, m, v, rfl, hG, hm, hw, q⟩ := h
    have sl : sizeLine = 16777216 := rfl
    cases hw with
    | @mk n so w ts b h2 hs =>
    obtain ⟨a, p, pv', rfl, ha, hp, hts⟩ := hm.parts
    have sh := h2.sh
    refine ⟨_, (pss_cons (ps_asg (pv 0) (pg_tup rfl (pgs_cons (pg_name (i := 2) sc_Ltext.nd rfl (Or.inl rfl)) (pgs_cons (pg_name (i := 3) sc_Ltext.nd rfl (Or.inl rfl)) (pgs_cons (pg_name (i := 4) sc_Ltext.nd rfl (Or.inl rfl)) (pgs_cons (pg_name (i := 5) sc_Ltext.nd rfl (Or.inl rfl)) pgs_nil))))))
    (pss_cons (ps_setLc (i := 1) (own := [("_law_part", 6)]) rfl sc_Ltext.nd rfl rfl (sw_true rfl rfl rfl (by decide +kernel)) (pi_tupK (K := K) rfl (pv 4)) (blkOk_by (N := N_Ltext) (sc := defScope s_Ltext) (by decide +kernel)) (fun _ _ _ _ _ => (pg_name (i := 6) sc_Ltext.nd rfl (Or.inl rfl))) (fun _ _ _ _ _ => pts_nil) (fun _ _ _ _ _ => (C8.pe_c c_Ltext hr (by first | decide | omega) rfl (pa_cons (pv 6) pa_nil))))
    (pss_cons (ps_if (pt_cmpR op_eq (pv 2) pe_str (nomark _)) (pss_one (ps_ret (pe_op op_add_str (pv 3) (pe_op op_rep_str pe_str (pe_callTy call_int1 (by rfl) (z_int T) boot_int (pa_cons (pv 5) pa_nil)))))) pss_nil)
    (pss_cons (ps_if (pt_cmpR op_eq (pv 2) pe_str (nomark _)) (pss_one (ps_ret (pe_op op_add_str (pe_op op_add_str (pe_ix (ix_listK (K := K) rfl) (pv 1) pe_int (fun _ _ => rfl)) pe_str) (pv 3)))) pss_nil)
    (pss_cons (ps_if (pt_cmpR op_eq (pv 2) pe_str (nomark _)) (pss_one (ps_ret (pe_op op_add_str pe_str (pe_ix (ix_listK (K := K) rfl) (pv 1) pe_int (fun _ _ => rfl))))) pss_nil)
    (pss_cons (ps_if (pt_cmpR op_eq (pv 2) pe_str (nomark _)) (pss_one (ps_ret pe_str)) pss_nil)
    (pss_cons (ps_if (pt_cmpR op_eq (pv 2) pe_str (nomark _)) (pss_one (ps_ret (pe_op op_add_str (pe_op op_add_str (pe_op op_add_str (pv 3) pe_str) (pe_join pe_str (pv 1))) pe_str))) pss_nil)
    (pss_one (ps_ret (pe_op op_add_str (pe_op op_add_str (pe_op op_add_str (pv 3) pe_str) (pe_join pe_str (pv 1))) pe_str)))))))))), ?_⟩
    refine ⟨_, rfl, a, _, rfl, SqT.of (hG _ _ ha), rfl, _, _, rfl, _, _, rfl, _, _, rfl, _, _, rfl, rfl, ?_⟩
    refine ⟨_, rfl, p, rfl, ⟨_, SqT.of (hG _ _ hp)⟩, fun D hD => ?_⟩
    have gD : G D = none := hG.free hD
    refine lc_tup (K := K) (a := p) (xs := pv') (fun i H' => Step none G H G H' ∧ H' D = some (.lst ((((ts.take i).map Mt.txt).map S).map V.str))) ⟨(Step.refl hG).loc hD gD, upd_same⟩ ?_ ?_ ?_
    · rintro i H' _ ⟨st, _⟩
      exact SqT.of (st.gh _ _ hp)
    · rintro i x H' hx ⟨st, hL⟩
      obtain ⟨t, ht, mt⟩ := get_pair hts.len hx
      refine ⟨rfl, ?_⟩
      unfold tYes
      refine iteT ⟨_, rfl, G, t, x, rfl, st.gh, hts.get hx ht, hs t mt, fun H2 s2 => ⟨_, s2.same _ _ hL, ?_, (st.trans s2).loc hD gD, ?_⟩⟩
      · have := sh.t3
        simp only [List.length_map, List.length_take]
        omega
      · rw [upd_same, take_one ht, List.map_append, List.map_append, List.map_append]
        rfl
    rintro H' ⟨st, hL⟩
    rw [hts.len, List.take_length] at hL
    have q2 := q H' st
    rw [Mt.txt_mk] at q2
    have hw := sh.w8
    have sj := joinL_len [44, 32] (ts.map Mt.txt)
    have ss := sum_le (xs := ts.map Mt.txt) (n := 600000) fun x hx => by
      obtain ⟨t, ht, rfl⟩ := List.mem_map.mp hx
      exact sh.tx t ht
    have s3 : (ts.map Mt.txt).length * 600000 ≤ 3 * 600000 := Nat.mul_le_mul_right _ (by rw [List.length_map]; exact sh.t3)
    have t3 := sh.t3
    have l2 : ([44, 32] : List Nat).length = 2 := rfl
    rw [l2, List.length_map] at sj
    have head : ts ≠ [] → ∃ x0, atI (((ts.map Mt.txt).map S).map V.str) 0 = some (.str (S x0)) ∧ (ts.map Mt.txt).headD [] = x0 ∧ x0.length ≤ 600000 := fun h => by
      cases ts with
      | nil => exact absurd rfl h
      | cons x r => exact ⟨x.txt, atI_nat (j := 0) (xs := ((((x :: r).map Mt.txt).map S).map V.str)) rfl, rfl, sh.tx x List.mem_cons_self⟩
    cases so with
    | row =>
      refine ⟨_, rfl, rfl, _, rfl, ?_⟩
      walk_at "yes"
      refine ⟨_, rfl, _, rfl, .inr ⟨b, rfl, "'", (if b = true then 1 else 0), rfl, rfl, by split <;> decide, by split <;> decide, by decide +kernel, ?_⟩⟩
      cases b with
      | true =>
        have e : (⟨(List.replicate (if true = true then (1 : Int) else 0).toNat ("'" : Str).cps.toList).flatten.toArray⟩ : Str) = S [39] := by decide +kernel
        rw [e]
        refine ⟨S w, S [39], rfl, rfl, by rw [S_len, S_len]; simp; omega, ?_⟩
        rw [S_cat]
        exact q2
      | false =>
        have e : (⟨(List.replicate (if false = true then (1 : Int) else 0).toNat ("'" : Str).cps.toList).flatten.toArray⟩ : Str) = S [] := by decide +kernel
        rw [e]
        refine ⟨S w, S [], rfl, rfl, by rw [S_len, S_len]; simp; omega, ?_⟩
        rw [S_cat, List.append_nil]
        exact q2
    | column =>
      obtain ⟨x0, h0, e0, z0⟩ := head (sh.ne (.inl rfl))
      refine ⟨_, rfl, rfl, _, rfl, ?_⟩
      walk_at "no"
      refine ⟨_, rfl, rfl, _, rfl, ?_⟩
      walk_at "yes"
      refine ⟨_, rfl, D, _, 0, _, rfl, rfl, SqL.of hL, h0, S x0, ".", rfl, rfl, by rw [dot_, S_len, S_len]; simp; omega, _, rfl, _, _, rfl, rfl, by rw [dot_, S_cat, S_len, S_len]; simp; omega, ?_⟩
      rw [dot_, S_cat, S_cat]
      have e : tx .column w (ts.map Mt.txt) b = x0 ++ [46] ++ w := by rw [← e0]; rfl
      rw [← e]
      exact q2
    | place =>
      obtain ⟨x0, h0, e0, z0⟩ := head (sh.ne (.inr rfl))
      refine ⟨_, rfl, rfl, _, rfl, ?_⟩
      walk_at "no"
      refine ⟨_, rfl, rfl, _, rfl, ?_⟩
      walk_at "no"
      refine ⟨_, rfl, rfl, _, rfl, ?_⟩
      walk_at "yes"
      refine ⟨_, rfl, D, _, 0, _, rfl, rfl, SqL.of hL, h0, "@", S x0, rfl, rfl, by rw [at__, S_len, S_len]; simp; omega, ?_⟩
      rw [at__, S_cat]
      have e : tx .place w (ts.map Mt.txt) b = [64] ++ x0 := by rw [← e0]; rfl
      rw [← e]
      exact q2
    | zero =>
      refine ⟨_, rfl, rfl, _, rfl, ?_⟩
      walk_at "no"
      refine ⟨_, rfl, rfl, _, rfl, ?_⟩
      walk_at "no"
      refine ⟨_, rfl, rfl, _, rfl, ?_⟩
      walk_at "no"
      refine ⟨_, rfl, rfl, _, rfl, ?_⟩
      walk_at "yes"
      show Q (V.str "0") H'
      rw [zero_]
      exact q2
    | func =>
      refine ⟨_, rfl, rfl, _, rfl, ?_⟩
      walk_at "no"
      refine ⟨_, rfl, rfl, _, rfl, ?_⟩
      walk_at "no"
      refine ⟨_, rfl, rfl, _, rfl, ?_⟩
      walk_at "no"
      refine ⟨_, rfl, rfl, _, rfl, ?_⟩
      walk_at "no"
      refine ⟨_, rfl, rfl, _, rfl, ?_⟩
      walk_at "yes"
      refine ⟨_, rfl, S w, "(", rfl, rfl, by rw [lp_, S_len, S_len]; simp; omega, ⟨_, rfl⟩, _, rfl, ", ", D, (ts.map Mt.txt).map S, rfl, rfl, .inl (SqL.of hL), by rw [lenS, List.length_map, List.length_map, cs_, S_len, l2]; omega, ?_⟩
      rw [cs_, join_S]
      refine ⟨_, _, rfl, rfl, by rw [lp_, S_cat, S_len, S_len]; simp; omega, ?_⟩
      refine ⟨_, ")", rfl, rfl, by rw [lp_, rp_, S_cat, S_cat, S_len, S_len]; simp; omega, ?_⟩
      rw [lp_, rp_, S_cat, S_cat, S_cat]
      exact q2
    | rule =>
      refine ⟨_, rfl, rfl, _, rfl, ?_⟩
      walk_at "no"
      refine ⟨_, rfl, rfl, _, rfl, ?_⟩
      walk_at "no"
      refine ⟨_, rfl, rfl, _, rfl, ?_⟩
      walk_at "no"
      refine ⟨_, rfl, rfl, _, rfl, ?_⟩
      walk_at "no"
      refine ⟨_, rfl, rfl, _, rfl, ?_⟩
      walk_at "no"
      refine ⟨_, rfl, S w, "[", rfl, rfl, by rw [lb_, S_len, S_len]; simp; omega, ⟨_, rfl⟩, _, rfl, ", ", D, (ts.map Mt.txt).map S, rfl, rfl, .inl (SqL.of hL), by rw [lenS, List.length_map, List.length_map, cs_, S_len, l2]; omega, ?_⟩
      rw [cs_, join_S]
      refine ⟨_, _, rfl, rfl, by rw [lb_, S_cat, S_len, S_len]; simp; omega, ?_⟩
      refine ⟨_, "]", rfl, rfl, by rw [lb_, rb_, S_cat, S_cat, S_len, S_len]; simp; omega, ?_⟩
      rw [lb_, rb_, S_cat, S_cat, S_cat]
      exact q2
end Pf
namespace Bs
open PySem PySem.Spec PyProof.Rows L2 SX
variable {P : Program} {w : World} {K : PySem.W.Frag} {mg : Str → Option Value} {base : Heap}
def spApp (C : Addr) : Sp := fun vs H Q _ => ∃ (G : Hp) (so : So) (w : List Nat) (l : Addr) (xs : List V) (ts : List Mt), vs = [.str so.s, .str (S w), .ref l] ∧ (so = .func ∨ so = .rule) ∧ Same G H ∧ H l = some (.lst xs) ∧ All2 (TAt C G) xs ts ∧ Shp so w ts ∧ 1 ≤ ts.length ∧
  ∀ (G' H' : Hp) (x : Addr), Step none G H G' H' → TAt C G' (.ref x) (.mk so w ts false) → H x = none → Q (.ref x) H'
theorem fnr {so : So} {C : Addr} {G H : Hp} {w : List Nat} {xs : List V} {ts : List Mt} {Q : VK} {E : XK} (hG : Same G H) (ht : All2 (TAt C G) xs ts) (sh : Shp so w ts) (q : ∀ (G' H' : Hp) (x : Addr), Step none G H G' H' → TAt C G' (.ref x) (.mk so w ts false) → H x = none → Q (.ref x) H') : spFnR so C (V.str (S w) :: xs) H Q E := by
  refine ⟨[.str (S w)], xs, rfl, rfl, ?_, fun p hp => ⟨G, p, w, xs, ts, rfl, Same.off hG (hG.free hp), upd_same, ht.len, fun i v t h1 h2 => ht.get h1 h2, sh, fun G' H' x st hx hn => ?_⟩⟩
  · have := ht.len
    have := sh.t3
    have : sizeLine = 16777216 := rfl
    omega
  · have s0 : Step none G H G (upd H p (.tup xs)) := (Step.refl hG).loc hp (hG.free hp)
    exact q G' H' x (s0.trans st) hx (s0.free hn)
def spBuilt (C : Addr) (n : Nat) : Sp := fun vs H Q _ => ∃ (G : Hp) (m : Mt) (v : V), vs = [v] ∧ Same G H ∧ MAt G v m ∧ Wt n m ∧ ∀ (G' H' : Hp) (x : Addr), Step none G H G' H' → TAt C G' (.ref x) m → Q (.ref x) H'
end Bs
namespace Pf
open PySem PySem.Spec PyProof.Rows L2 Bs SX
variable {P : Program} {w : World} {K : PySem.W.Frag} {mg : Str → Option Value} {base : Heap}
local macro_rules | `(tactic| walk_at "no") => `(tactic| refine ite2 (fun c => absurd (V.str.inj (of_decide_eq_true c)) (by decide +kernel)) (fun _ => ?_))
local macro_rules | `(tactic| walk_at "yes") => `(tactic| refine ite2 (fun _ => ?_) (fun c => absurd (decide_eq_true rfl) c))
local macro_rules | `(tactic| walk_at "noi") => `(tactic| refine ite2 (fun c => absurd (V.int.inj (of_decide_eq_true c)) (by simp)) (fun _ => ?_))
abbrev N_Lapplied : List Str := ["_law_kind", "_law_name", "_law_built_here"]
theorem sc_Lapplied : FnScope N_Lapplied ["_law_kind", "_law_name", "_law_built_here"] (defScope s_Lapplied) := ⟨rfl, rfl, rfl, by decide +kernel, rfl, by decide +kernel, by decide +kernel⟩
theorem c_Lapplied (T : Tx K mg) : C8.Cal P w K mg base 7 "_law_applied" (spApp (CT K)) [] := by
  obtain ⟨fd, F⟩ := f_Lapplied T
  have r_rule_term := r_rule_term (P := P) (w := w) (base := base) T
  have r_function_term := r_function_term (P := P) (w := w) (base := base) T
  refine mkCal F (g_law_applied T) (F.bindsN fun _ _ _ _ _ _ us hl => match us, hl with | [_, _, _], _ => rfl) .nil sc_Lapplied (fun vs H Q E h => ?_) (fun cdv A outer s H vs Q E hr h => ?_)
  · obtain ⟨G, so, w, l, xs, ts, rfl, _⟩ := h
    rfl
  obtain ⟨G, so, w, l, xs, ts, rfl, hso, hG, hl, ht, sh, h1, q⟩ := h
  have t3 := sh.t3
  refine ⟨_, (pss_cons (ps_if (pt_cmpR op_eq (pv 0) pe_str (nomark _)) (pss_cons (ps_if (pt_cmpR op_eq (pe_callB (call_len_seqK (K := K) rfl) (by rfl) (z_len T) boot_len (pa_cons (pv 2) pa_nil)) pe_int (nomark _)) (pss_one (ps_ret (pe_r r_rule_term hr (by first | decide | omega) rfl (pa_cons (pv 1) (pa_cons (pe_ix (ix_listK (K := K) rfl) (pv 2) pe_int (fun _ _ => rfl)) pa_nil))))) pss_nil)
    (pss_cons (ps_if (pt_cmpR op_eq (pe_callB (call_len_seqK (K := K) rfl) (by rfl) (z_len T) boot_len (pa_cons (pv 2) pa_nil)) pe_int (nomark _)) (pss_one (ps_ret (pe_r r_rule_term hr (by first | decide | omega) rfl (pa_cons (pv 1) (pa_cons (pe_ix (ix_listK (K := K) rfl) (pv 2) pe_int (fun _ _ => rfl)) (pa_cons (pe_ix (ix_listK (K := K) rfl) (pv 2) pe_int (fun _ _ => rfl)) pa_nil)))))) pss_nil)
    (pss_one (ps_ret (pe_r r_rule_term hr (by first | decide | omega) rfl (pa_cons (pv 1) (pa_cons (pe_ix (ix_listK (K := K) rfl) (pv 2) pe_int (fun _ _ => rfl)) (pa_cons (pe_ix (ix_listK (K := K) rfl) (pv 2) pe_int (fun _ _ => rfl)) (pa_cons (pe_ix (ix_listK (K := K) rfl) (pv 2) pe_int (fun _ _ => rfl)) pa_nil))))))))) pss_nil)
    (pss_cons (ps_if (pt_cmpR op_eq (pe_callB (call_len_seqK (K := K) rfl) (by rfl) (z_len T) boot_len (pa_cons (pv 2) pa_nil)) pe_int (nomark _)) (pss_one (ps_ret (pe_r r_function_term hr (by first | decide | omega) rfl (pa_cons (pv 1) (pa_cons (pe_ix (ix_listK (K := K) rfl) (pv 2) pe_int (fun _ _ => rfl)) pa_nil))))) pss_nil)
    (pss_cons (ps_if (pt_cmpR op_eq (pe_callB (call_len_seqK (K := K) rfl) (by rfl) (z_len T) boot_len (pa_cons (pv 2) pa_nil)) pe_int (nomark _)) (pss_one (ps_ret (pe_r r_function_term hr (by first | decide | omega) rfl (pa_cons (pv 1) (pa_cons (pe_ix (ix_listK (K := K) rfl) (pv 2) pe_int (fun _ _ => rfl)) (pa_cons (pe_ix (ix_listK (K := K) rfl) (pv 2) pe_int (fun _ _ => rfl)) pa_nil)))))) pss_nil)
    (pss_one (ps_ret (pe_r r_function_term hr (by first | decide | omega) rfl (pa_cons (pv 1) (pa_cons (pe_ix (ix_listK (K := K) rfl) (pv 2) pe_int (fun _ _ => rfl)) (pa_cons (pe_ix (ix_listK (K := K) rfl) (pv 2) pe_int (fun _ _ => rfl)) (pa_cons (pe_ix (ix_listK (K := K) rfl) (pv 2) pe_int (fun _ _ => rfl)) pa_nil)))))))))), ?_⟩
  rcases hso with rfl | rfl
  · refine ⟨_, rfl, rfl, _, rfl, ?_⟩
    walk_at "no"
    match xs, ts, ht, h1, t3 with
    | [], [], _, h, _ => exact absurd h (by simp)
    | [x0], [t0], ht, _, _ =>
      refine ⟨_, rfl, l, _, rfl, .inl (SqL.of hl), rfl, _, rfl, ?_⟩
      walk_at "yes"
      exact ⟨_, rfl, _, rfl, l, _, 0, x0, rfl, rfl, SqL.of hl, atI_nat (j := 0) rfl, fnr hG ht sh q⟩
    | [x0, x1], [t0, t1], ht, _, _ =>
      refine ⟨_, rfl, l, _, rfl, .inl (SqL.of hl), rfl, _, rfl, ?_⟩
      walk_at "noi"
      refine ⟨_, rfl, l, _, rfl, .inl (SqL.of hl), rfl, _, rfl, ?_⟩
      walk_at "yes"
      exact ⟨_, rfl, _, rfl, l, _, 0, x0, rfl, rfl, SqL.of hl, atI_nat (j := 0) rfl, _, rfl, l, _, 1, x1, rfl, rfl, SqL.of hl, atI_nat (j := 1) rfl, fnr hG ht sh q⟩
    | [x0, x1, x2], [t0, t1, t2], ht, _, _ =>
      refine ⟨_, rfl, l, _, rfl, .inl (SqL.of hl), rfl, _, rfl, ?_⟩
      walk_at "noi"
      refine ⟨_, rfl, l, _, rfl, .inl (SqL.of hl), rfl, _, rfl, ?_⟩
      walk_at "noi"
      exact ⟨_, rfl, _, rfl, l, _, 0, x0, rfl, rfl, SqL.of hl, atI_nat (j := 0) rfl, _, rfl, l, _, 1, x1, rfl, rfl, SqL.of hl, atI_nat (j := 1) rfl, _, rfl, l, _, 2, x2, rfl, rfl, SqL.of hl, atI_nat (j := 2) rfl, fnr hG ht sh q⟩
    | _ :: _ :: _ :: _ :: _, _ :: _ :: _ :: _ :: _, _, _, h => exact absurd h (by simp)
  · refine ⟨_, rfl, rfl, _, rfl, ?_⟩
    walk_at "yes"
    match xs, ts, ht, h1, t3 with
    | [], [], _, h, _ => exact absurd h (by simp)
    | [x0], [t0], ht, _, _ =>
      refine ⟨_, rfl, l, _, rfl, .inl (SqL.of hl), rfl, _, rfl, ?_⟩
      walk_at "yes"
      exact ⟨_, rfl, _, rfl, l, _, 0, x0, rfl, rfl, SqL.of hl, atI_nat (j := 0) rfl, fnr hG ht sh q⟩
    | [x0, x1], [t0, t1], ht, _, _ =>
      refine ⟨_, rfl, l, _, rfl, .inl (SqL.of hl), rfl, _, rfl, ?_⟩
      walk_at "noi"
      refine ⟨_, rfl, l, _, rfl, .inl (SqL.of hl), rfl, _, rfl, ?_⟩
      walk_at "yes"
      exact ⟨_, rfl, _, rfl, l, _, 0, x0, rfl, rfl, SqL.of hl, atI_nat (j := 0) rfl, _, rfl, l, _, 1, x1, rfl, rfl, SqL.of hl, atI_nat (j := 1) rfl, fnr hG ht sh q⟩
    | [x0, x1, x2], [t0, t1, t2], ht, _, _ =>
      refine ⟨_, rfl, l, _, rfl, .inl (SqL.of hl), rfl, _, rfl, ?_⟩
      walk_at "noi"
      refine ⟨_, rfl, l, _, rfl, .inl (SqL.of hl), rfl, _, rfl, ?_⟩
      walk_at "noi"
      exact ⟨_, rfl, _, rfl, l, _, 0, x0, rfl, rfl, SqL.of hl, atI_nat (j := 0) rfl, _, rfl, l, _, 1, x1, rfl, rfl, SqL.of hl, atI_nat (j := 1) rfl, _, rfl, l, _, 2, x2, rfl, rfl, SqL.of hl, atI_nat (j := 2) rfl, fnr hG ht sh q⟩
    | _ :: _ :: _ :: _ :: _, _ :: _ :: _ :: _ :: _, _, _, h => exact absurd h (by simp)
abbrev N_Lbuilt : List Str := ["_law_model", "_law_kind", "_law_name", "_law_parts", "_law_marked", "_law_part"]
theorem sc_Lbuilt : FnScope N_Lbuilt ["_law_model"] (defScope s_Lbuilt) := ⟨rfl, rfl, rfl, by decide +kernel, rfl, by decide +kernel, by decide +kernel⟩
theorem c_Lbuilt (T : Tx K mg) : ∀ n : Nat, C8.Cal P w K mg base (n + 8) "_law_built" (spBuilt (CT K) n) []
  | 0 => by
    obtain ⟨fd, F⟩ := f_Lbuilt T
    exact Cal.mono (cal_none F (g_law_built T) (F.bindsN (ps := ["_law_model"]) fun _ _ _ _ _ _ us hl => match us, hl with | [_], _ => rfl) fun vs H Q E ⟨G, m, v, _, _, _, h, _⟩ => nomatch h) (Nat.zero_le _)
  | n + 1 => by
    obtain ⟨fd, F⟩ := f_Lbuilt T
    have c_Lbuilt := c_Lbuilt T n
    have c_Lapplied := c_Lapplied (P := P) (w := w) (base := base) T
    have c_zero_term := c_zero_term (P := P) (w := w) (base := base) T
    have c_row_term := c_row_term (P := P) (w := w) (base := base) T
    have c_place_term := c_place_term (P := P) (w := w) (base := base) T
    have c_column_term := c_column_term (P := P) (w := w) (base := base) T
    show C8.Cal P w K mg base (n + 8 + 1) _ _ _
    refine mkCal F (g_law_built T) (F.bindsN fun _ _ _ _ _ _ us hl => match us, hl with | [_], _ => rfl) .nil sc_Lbuilt (fun vs H Q E h => ?_) (fun cdv A outer s H vs Q E hr h => ?_)
    · obtain ⟨G, m, v, rfl, _⟩ := h
      rfl
    obtain ⟨G, m, v, rfl, hG, hm, hw, q⟩ := h
    have sl : sizeLine = 16777216 := rfl
    cases hw with
    | @mk n so w ts b h2 hs =>
    obtain ⟨a, p, pv', rfl, ha, hp, hts⟩ := hm.parts
    have sh := h2.sh
    refine ⟨_, (pss_cons (ps_asg (pv 0) (pg_tup rfl (pgs_cons (pg_name (i := 1) sc_Lbuilt.nd rfl (Or.inl rfl)) (pgs_cons (pg_name (i := 2) sc_Lbuilt.nd rfl (Or.inl rfl)) (pgs_cons (pg_name (i := 3) sc_Lbuilt.nd rfl (Or.inl rfl)) (pgs_cons (pg_name (i := 4) sc_Lbuilt.nd rfl (Or.inl rfl)) pgs_nil))))))
    (pss_cons (ps_if (pt_cmpR op_eq (pv 1) pe_str (nomark _)) (pss_one (ps_ret (pe_c0 c_zero_term hr (by first | decide | omega) rfl))) pss_nil)
    (pss_cons (ps_if (pt_cmpR op_eq (pv 1) pe_str (nomark _)) (pss_one (ps_ret (C8.pe_c c_row_term hr (by first | decide | omega) rfl (pa_cons (pv 2) (pa_cons (pv 4) pa_nil))))) pss_nil)
    (pss_cons (ps_if (pt_cmpR op_eq (pv 1) pe_str (nomark _)) (pss_one (ps_ret (C8.pe_c c_place_term hr (by first | decide | omega) rfl (pa_cons (pe_ix (ix_tupK (K := K) rfl) (pe_ix (ix_tupK (K := K) rfl) (pv 3) pe_int (fun _ _ => rfl)) pe_int (fun _ _ => rfl)) (pa_cons (pe_ix (ix_tupK (K := K) rfl) (pe_ix (ix_tupK (K := K) rfl) (pv 3) pe_int (fun _ _ => rfl)) pe_int (fun _ _ => rfl)) pa_nil))))) pss_nil)
    (pss_cons (ps_if (pt_cmpR op_eq (pv 1) pe_str (nomark _)) (pss_one (ps_ret (C8.pe_c c_column_term hr (by first | decide | omega) rfl (pa_cons (pe_ix (ix_tupK (K := K) rfl) (pe_ix (ix_tupK (K := K) rfl) (pv 3) pe_int (fun _ _ => rfl)) pe_int (fun _ _ => rfl)) (pa_cons (pv 2) (pa_cons (pe_ix (ix_tupK (K := K) rfl) (pe_ix (ix_tupK (K := K) rfl) (pv 3) pe_int (fun _ _ => rfl)) pe_int (fun _ _ => rfl)) pa_nil)))))) pss_nil)
    (pss_one (ps_ret (C8.pe_c c_Lapplied hr (by first | decide | omega) rfl (pa_cons (pv 1) (pa_cons (pv 2) (pa_cons (pe_lc (own := [("_law_part", 5)]) rfl sc_Lbuilt.nd (pi_tupK (K := K) rfl (pv 3)) (blkOk_by (N := N_Lbuilt) (sc := defScope s_Lbuilt) (by decide +kernel)) (fun _ _ _ _ _ => (pg_name (i := 5) sc_Lbuilt.nd rfl (Or.inl rfl))) (fun _ _ _ _ _ => pts_nil) (fun _ _ _ _ _ => (C8.pe_c c_Lbuilt hr (by first | decide | omega) rfl (pa_cons (pv 5) pa_nil)))) pa_nil))))))))))), ?_⟩
    refine ⟨_, rfl, a, _, rfl, SqT.of (hG _ _ ha), rfl, _, _, rfl, _, _, rfl, _, _, rfl, _, _, rfl, rfl, ?_⟩
    have one : so = .column ∨ so = .place → ∃ (w' : List Nat) (b' : Bool) (a0 : Addr) (p0 : Addr), w'.length ≤ 8 ∧ ts = [.mk .row w' [] b'] ∧ pv' = [.ref a0] ∧ G a0 = some (.tup [.str "row", .str (S w'), .ref p0, .bl b']) := fun h => by
      obtain ⟨w', b', e, hl⟩ := h2.one h
      subst e
      cases hts with
      | cons h0 t0 =>
        cases t0
        obtain ⟨a0, p0, pv0, rfl, h1, h3, h4⟩ := h0.parts
        exact ⟨w', b', a0, p0, hl, rfl, rfl, h1⟩
    cases so with
    | zero =>
      obtain rfl := h2.leaf (.inr rfl)
      obtain rfl := h2.nil (.inl rfl)
      obtain rfl := h2.fl (fun h => by cases h)
      refine ⟨_, rfl, rfl, _, rfl, ?_⟩
      walk_at "yes"
      exact ⟨G, rfl, hG, fun G' H' x st hx _ => q G' H' x st hx⟩
    | row =>
      obtain rfl := h2.leaf (.inl rfl)
      refine ⟨_, rfl, rfl, _, rfl, ?_⟩
      walk_at "no"
      refine ⟨_, rfl, rfl, _, rfl, ?_⟩
      walk_at "yes"
      exact ⟨_, rfl, _, rfl, G, w, b, rfl, hG, sh.w8, fun G' H' x st hx _ => q G' H' x st hx⟩
    | place =>
      obtain ⟨w', b', a0, p0, hl', rfl, rfl, h0⟩ := one (.inr rfl)
      obtain rfl := h2.nil (.inr rfl)
      obtain rfl := h2.fl (fun h => by cases h)
      refine ⟨_, rfl, rfl, _, rfl, ?_⟩
      walk_at "no"
      refine ⟨_, rfl, rfl, _, rfl, ?_⟩
      walk_at "no"
      refine ⟨_, rfl, rfl, _, rfl, ?_⟩
      walk_at "yes"
      exact ⟨_, rfl, p, _, 0, _, rfl, rfl, SqT.of (hG _ _ hp), atI_nat (j := 0) rfl, a0, _, 1, _, rfl, rfl, SqT.of (hG _ _ h0), atI_nat (j := 1) rfl, _, rfl, p, _, 0, _, rfl, rfl, SqT.of (hG _ _ hp), atI_nat (j := 0) rfl, a0, _, 3, _, rfl, rfl, SqT.of (hG _ _ h0), atI_nat (j := 3) rfl, G, w', b', rfl, hG, hl', fun G' H' x st hx _ => q G' H' x st hx⟩
    | column =>
      obtain ⟨w', b', a0, p0, hl', rfl, rfl, h0⟩ := one (.inl rfl)
      obtain rfl := h2.fl (fun h => by cases h)
      refine ⟨_, rfl, rfl, _, rfl, ?_⟩
      walk_at "no"
      refine ⟨_, rfl, rfl, _, rfl, ?_⟩
      walk_at "no"
      refine ⟨_, rfl, rfl, _, rfl, ?_⟩
      walk_at "no"
      refine ⟨_, rfl, rfl, _, rfl, ?_⟩
      walk_at "yes"
      exact ⟨_, rfl, p, _, 0, _, rfl, rfl, SqT.of (hG _ _ hp), atI_nat (j := 0) rfl, a0, _, 1, _, rfl, rfl, SqT.of (hG _ _ h0), atI_nat (j := 1) rfl, _, rfl, _, rfl, p, _, 0, _, rfl, rfl, SqT.of (hG _ _ hp), atI_nat (j := 0) rfl, a0, _, 3, _, rfl, rfl, SqT.of (hG _ _ h0), atI_nat (j := 3) rfl, G, w', w, b', rfl, hG, hl', sh.w8, fun G' H' x st hx _ => q G' H' x st hx⟩
    | func =>
      obtain rfl := h2.fl (fun h => by cases h)
      refine ⟨_, rfl, rfl, _, rfl, ?_⟩
      walk_at "no"
      refine ⟨_, rfl, rfl, _, rfl, ?_⟩
      walk_at "no"
      refine ⟨_, rfl, rfl, _, rfl, ?_⟩
      walk_at "no"
      refine ⟨_, rfl, rfl, _, rfl, ?_⟩
      walk_at "no"
      refine ⟨_, rfl, _, rfl, _, rfl, p, rfl, ⟨_, SqT.of (hG _ _ hp)⟩, fun D hD => ?_⟩
      have gD : G D = none := hG.free hD
      refine lc_tup (K := K) (a := p) (xs := pv') (fun i H' => ∃ (G' : Hp) (xs : List V), Step none G H G' H' ∧ G' D = none ∧ H' D = some (.lst xs) ∧ All2 (TAt (CT K) G') xs (ts.take i)) ⟨G, [], (Step.refl hG).loc hD gD, gD, upd_same, .nil⟩ ?_ ?_ ?_
      · rintro i H' _ ⟨G', xs, st, _⟩
        exact SqT.of (st.gh _ _ (st.gg _ _ hp))
      · rintro i x H' hx ⟨G', xs, st, g', hL, hall⟩
        obtain ⟨t, ht, mt⟩ := get_pair hts.len hx
        refine ⟨rfl, ?_⟩
        unfold tYes
        refine iteT ⟨_, rfl, G', t, x, rfl, st.gh, (hts.get hx ht).same st.gg, hs t mt, fun G2 H2 y s2 hy => ⟨_, s2.same _ _ hL, ?_, G2, xs ++ [.ref y], ?_, ?_, upd_same, ?_⟩⟩
        · have := sh.t3
          have := hall.len
          rw [List.length_take] at this
          omega
        · exact (st.trans s2).loc hD (s2.out g' (by rw [hL]; exact fun z => by cases z))
        · exact s2.out g' (by rw [hL]; exact fun z => by cases z)
        · rw [take_one ht]
          exact (hall.mono fun _ _ r => r.same s2.gg).app (.cons hy .nil)
      rintro H' ⟨G', xs, st, g', hL, hall⟩
      rw [hts.len, List.take_length] at hall
      exact ⟨G', .func, w, D, xs, ts, rfl, .inl rfl, st.gh, hL, hall, sh, h2.more (.inl rfl), fun G2 H2 x s2 hx _ => q G2 H2 x (st.trans s2) hx⟩
    | rule =>
      obtain rfl := h2.fl (fun h => by cases h)
      refine ⟨_, rfl, rfl, _, rfl, ?_⟩
      walk_at "no"
      refine ⟨_, rfl, rfl, _, rfl, ?_⟩
      walk_at "no"
      refine ⟨_, rfl, rfl, _, rfl, ?_⟩
      walk_at "no"
      refine ⟨_, rfl, rfl, _, rfl, ?_⟩
      walk_at "no"
      refine ⟨_, rfl, _, rfl, _, rfl, p, rfl, ⟨_, SqT.of (hG _ _ hp)⟩, fun D hD => ?_⟩
      have gD : G D = none := hG.free hD
      refine lc_tup (K := K) (a := p) (xs := pv') (fun i H' => ∃ (G' : Hp) (xs : List V), Step none G H G' H' ∧ G' D = none ∧ H' D = some (.lst xs) ∧ All2 (TAt (CT K) G') xs (ts.take i)) ⟨G, [], (Step.refl hG).loc hD gD, gD, upd_same, .nil⟩ ?_ ?_ ?_
      · rintro i H' _ ⟨G', xs, st, _⟩
        exact SqT.of (st.gh _ _ (st.gg _ _ hp))
      · rintro i x H' hx ⟨G', xs, st, g', hL, hall⟩
        obtain ⟨t, ht, mt⟩ := get_pair hts.len hx
        refine ⟨rfl, ?_⟩
        unfold tYes
        refine iteT ⟨_, rfl, G', t, x, rfl, st.gh, (hts.get hx ht).same st.gg, hs t mt, fun G2 H2 y s2 hy => ⟨_, s2.same _ _ hL, ?_, G2, xs ++ [.ref y], ?_, ?_, upd_same, ?_⟩⟩
        · have := sh.t3
          have := hall.len
          rw [List.length_take] at this
          omega
        · exact (st.trans s2).loc hD (s2.out g' (by rw [hL]; exact fun z => by cases z))
        · exact s2.out g' (by rw [hL]; exact fun z => by cases z)
        · rw [take_one ht]
          exact (hall.mono fun _ _ r => r.same s2.gg).app (.cons hy .nil)
      rintro H' ⟨G', xs, st, g', hL, hall⟩
      rw [hts.len, List.take_length] at hall
      exact ⟨G', .rule, w, D, xs, ts, rfl, .inr rfl, st.gh, hL, hall, sh, h2.more (.inr rfl), fun G2 H2 x s2 hx _ => q G2 H2 x (st.trans s2) hx⟩
end Pf
namespace Bs
open PySem PySem.Spec PyProof.Rows L2 SX
theorem TAt.parts {C : Addr} {G : Hp} {v : V} {so : So} {w : List Nat} {ts : List Mt} {b : Bool} (h : TAt C G v (.mk so w ts b)) : ∃ (a dx l : Addr) (vs : List V), v = .ref a ∧ G a = some (.ins C dx (tf so w l b (Mt.mk so w ts b).txt (Mt.mk so w ts b).dep)) ∧ G l = some (.lst vs) ∧ All2 (TAt C G) vs ts := by
  cases h with
  | @mk a dx l so w vs ts b ha hp hl h => exact ⟨a, dx, l, vs, rfl, by rw [Mt.txt_mk, Mt.dep_mk]; exact ha, hp, .of hl h⟩
def spIs (C : Addr) (n : Nat) : Sp := fun vs H Q _ => ∃ (G : Hp) (m : Mt) (v v' : V), vs = [v, v'] ∧ Same G H ∧ TAt C G v m ∧ MAt G v' m ∧ Wt n m ∧ ∀ H' : Hp, Step none G H G H' → Q (.bl true) H'
theorem rep_app (b : Bool) (i : Nat) : (List.replicate i b).map V.bl ++ [V.bl b] = (List.replicate (i + 1) b).map V.bl := by
  rw [List.replicate_succ', List.map_append]
  rfl
theorem all_rep (i : Nat) : (List.replicate i true).all id = true := by
  rw [List.all_eq_true]
  intro x hx
  rw [(List.mem_replicate.mp hx).2]
  rfl
end Bs
namespace Pf
open PySem PySem.Spec PyProof.Rows L2 Bs SX
variable {P : Program} {w : World} {K : PySem.W.Frag} {mg : Str → Option Value} {base : Heap}
local macro_rules | `(tactic| walk_at "no") => `(tactic| refine ite2 (fun c => absurd c (by simp)) (fun _ => ?_))
abbrev N_Lis : List Str := ["_law_term_here", "_law_model", "_law_kind", "_law_name", "_law_parts", "_law_marked", "_law_part", "_law_inner"]
theorem sc_Lis : FnScope N_Lis ["_law_term_here", "_law_model"] (defScope s_Lis) := ⟨rfl, rfl, rfl, by decide +kernel, rfl, by decide +kernel, by decide +kernel⟩
theorem c_Lis (T : Tx K mg) : ∀ n : Nat, C8.Cal P w K mg base (n + 4) "_law_is" (spIs (CT K) n) []
  | 0 => by
    obtain ⟨fd, F⟩ := f_Lis T
    exact Cal.mono (cal_none F (g_law_is T) (F.bindsN (ps := ["_law_term_here", "_law_model"]) fun _ _ _ _ _ _ us hl => match us, hl with | [_, _], _ => rfl) fun vs H Q E ⟨G, m, v, v', _, _, _, _, h, _⟩ => nomatch h) (Nat.zero_le _)
  | n + 1 => by
    obtain ⟨fd, F⟩ := f_Lis T
    have c_Lis := c_Lis T n
    have c_Ltext := c_Ltext (P := P) (w := w) (base := base) T (n + 1)
    have pe_g_Term : ∀ {X : Cx} {pos : Pos}, X.mg = mg → Gl X "Term" → PE X (.Name "Term" pos) (tC (.ref (CT K))) := fun h1 h2 => C8.pe_gc h2 ⟨_, by rw [h1]; exact g_Term T, rfl⟩
    have pe_g_list : ∀ {X : Cx} {pos : Pos}, X.mg = mg → Gl X "list" → PE X (.Name "list" pos) (tC (.ty "list")) := fun h1 h2 => pe_bltn h2 (by rw [h1]; exact z_list T) boot_list rfl
    have pe_g_bool : ∀ {X : Cx} {pos : Pos}, X.mg = mg → Gl X "bool" → PE X (.Name "bool" pos) (tC (.ty "bool")) := fun h1 h2 => pe_bltn h2 (by rw [h1]; exact z_bool T) boot_bool rfl
    have pe_g_str : ∀ {X : Cx} {pos : Pos}, X.mg = mg → Gl X "str" → PE X (.Name "str" pos) (tC (.ty "str")) := fun h1 h2 => pe_bltn h2 (by rw [h1]; exact z_str T) boot_str rfl
    show C8.Cal P w K mg base (n + 4 + 1) _ _ _
    refine mkCal F (g_law_is T) (F.bindsN fun _ _ _ _ _ _ us hl => match us, hl with | [_, _], _ => rfl) .nil sc_Lis (fun vs H Q E h => ?_) (fun cdv A outer s H vs Q E hr h => ?_)
    · obtain ⟨G, m, v, v', rfl, _⟩ := h
      rfl
    obtain ⟨G, m, v, v', rfl, hG, ht, hm, hw, q⟩ := h
    have sl : sizeLine = 16777216 := rfl
    have C0 := cls_Term_ T
    have I0 := Hd.insB_ok (ex_0 T)
    have hw0 := hw
    cases hw with
    | @mk n so w ts b h2 hs =>
    have ht0 := ht
    have hm0 := hm
    obtain ⟨a, p, pv', rfl, ha, hp, hts⟩ := hm.parts
    obtain ⟨ta, dx, l, tv, rfl, hta, hl, htt⟩ := ht.parts
    have sh := h2.sh
    refine ⟨_, (pss_cons (ps_asg (pv 1) (pg_tup rfl (pgs_cons (pg_name (i := 2) sc_Lis.nd rfl (Or.inl rfl)) (pgs_cons (pg_name (i := 3) sc_Lis.nd rfl (Or.inl rfl)) (pgs_cons (pg_name (i := 4) sc_Lis.nd rfl (Or.inl rfl)) (pgs_cons (pg_name (i := 5) sc_Lis.nd rfl (Or.inl rfl)) pgs_nil))))))
    (pss_cons (ps_if (PW.pt (pw_or (pt_not (pt_val (pe_callB (call_isiK' (K := K) rfl) (by rfl) (z_isinstance T) boot_isinstance (pa_cons (pv 0) (pa_cons (pe_g_Term rfl rfl) pa_nil))))) (pw_or (pt_cmpR op_ne (pe_fldK (K := K) rfl (pv 0) (by rfl)) (pv 2) (nomark _)) (pw_or (pt_cmpR op_ne (pe_fldK (K := K) rfl (pv 0) (by rfl)) (pv 3) (nomark _)) (pw_or1 (pt_not (pt_val (pe_callB (call_isiK' (K := K) rfl) (by rfl) (z_isinstance T) boot_isinstance (pa_cons (pe_fldK (K := K) rfl (pv 0) (by rfl)) (pa_cons (pe_g_list rfl rfl) pa_nil)))))))))) (pss_one (ps_ret pe_bl)) pss_nil)
    (pss_cons (ps_if (PW.pt (pw_or (pt_not (pt_val (pe_callB (call_isiK' (K := K) rfl) (by rfl) (z_isinstance T) boot_isinstance (pa_cons (pe_fldK (K := K) rfl (pv 0) (by rfl)) (pa_cons (pe_g_bool rfl rfl) pa_nil))))) (pw_or (pt_cmpR op_ne (pe_fldK (K := K) rfl (pv 0) (by rfl)) (pv 5) (nomark _)) (pw_or1 (pt_cmpR op_ne (pe_callB (call_len_seqK (K := K) rfl) (by rfl) (z_len T) boot_len (pa_cons (pe_fldK (K := K) rfl (pv 0) (by rfl)) pa_nil)) (pe_callB (call_len_seqK (K := K) rfl) (by rfl) (z_len T) boot_len (pa_cons (pv 4) pa_nil)) (nomark _)))))) (pss_one (ps_ret pe_bl)) pss_nil)
    (pss_cons (ps_if (PW.pt (pw_or (pt_not (pt_val (pe_callB (call_isiK' (K := K) rfl) (by rfl) (z_isinstance T) boot_isinstance (pa_cons (pe_fldK (K := K) rfl (pv 0) (by rfl)) (pa_cons (pe_g_str rfl rfl) pa_nil))))) (pw_or (pt_cmpR op_ne (pe_fldK (K := K) rfl (pv 0) (by rfl)) (C8.pe_c c_Ltext hr (by first | decide | omega) rfl (pa_cons (pv 1) pa_nil)) (nomark _)) (pw_or1 (pt_cmpR op_ne (pe_callTy (call_strO (own_str T rfl rfl rfl rfl rfl) (hr.mono (by omega))) (by rfl) (z_str T) boot_str (pa_cons (pv 0) pa_nil)) (pe_fldK (K := K) rfl (pv 0) (by rfl)) (nomark _)))))) (pss_one (ps_ret pe_bl)) pss_nil)
    (pss_one (ps_ret (pe_callB (cr_all rfl) (by rfl) (z_all T) boot_all (pa_cons (pe_lc (own := [("_law_part", 6), ("_law_inner", 7)]) rfl sc_Lis.nd (pi_zipM (K := K) rfl (by rfl) (z_zip T) (pa_cons (pe_fldK (K := K) rfl (pv 0) (by rfl)) (pa_cons (pv 4) pa_nil))) (blkOk_by (N := N_Lis) (sc := defScope s_Lis) (by decide +kernel)) (fun _ _ _ _ _ => (pg_tupK (K := K) (n := 2) rfl rfl (pgs_cons (pg_name (i := 6) sc_Lis.nd rfl (Or.inl rfl)) (pgs_cons (pg_name (i := 7) sc_Lis.nd rfl (Or.inl rfl)) pgs_nil)))) (fun _ _ _ _ _ => pts_nil) (fun _ _ _ _ _ => (C8.pe_c c_Lis hr (by first | decide | omega) rfl (pa_cons (pv 6) (pa_cons (pv 7) pa_nil))))) pa_nil)))))))), ?_⟩
    refine ⟨_, rfl, a, _, rfl, SqT.of (hG _ _ ha), rfl, _, _, rfl, _, _, rfl, _, _, rfl, _, _, rfl, rfl, ?_⟩
    refine ⟨_, rfl, .ref ta, .ref (CT K), .ref (CT K), .ref (CT K), true, rfl, .own _, .base (.ins (hG _ _ hta) C0 I0.ha I0.hn I0.htk I0.hm), I0.me, true, rfl, ?_⟩
    walk_at "no"
    refine ⟨_, rfl, ta, CT K, dx, _, _, rfl, hG _ _ hta, C0, noat_Term_kind T, tf_kind, _, rfl, rfl, _, rfl, ?_⟩
    walk_at "no"
    refine ⟨_, rfl, ta, CT K, dx, _, _, rfl, hG _ _ hta, C0, noat_Term_name T, tf_name, _, rfl, rfl, _, rfl, ?_⟩
    walk_at "no"
    refine ⟨_, rfl, ta, CT K, dx, _, _, rfl, hG _ _ hta, C0, noat_Term_parts T, tf_parts, .ref l, .ty "list", .type "list", .type "list", true, rfl, .ty _, .base (.lst (hG _ _ hl)), kit_ty (by decide +kernel), true, rfl, ?_⟩
    walk_at "no"
    refine ⟨_, rfl, ta, CT K, dx, _, _, rfl, hG _ _ hta, C0, noat_Term_marked T, tf_marked, .bl b, .ty "bool", .type "bool", .type "bool", true, rfl, .ty _, .base (.bl b), kit_ty (by decide +kernel), true, rfl, ?_⟩
    walk_at "no"
    refine ⟨_, rfl, ta, CT K, dx, _, _, rfl, hG _ _ hta, C0, noat_Term_marked T, tf_marked, _, rfl, rfl, _, rfl, ?_⟩
    walk_at "no"
    refine ⟨_, rfl, ta, CT K, dx, _, _, rfl, hG _ _ hta, C0, noat_Term_parts T, tf_parts, l, tv, rfl, .inl (SqL.of (hG _ _ hl)), _, rfl, p, pv', rfl, .inr (SqT.of (hG _ _ hp)), rfl, _, rfl, ?_⟩
    refine ite2 (fun c => absurd c (by rw [htt.len, hts.len]; simp)) (fun _ => ?_)
    refine ⟨_, rfl, ta, CT K, dx, _, _, rfl, hG _ _ hta, C0, noat_Term_text T, tf_text, .str _, .ty "str", .type "str", .type "str", true, rfl, .ty _, .base (.str _), kit_ty (by decide +kernel), true, rfl, ?_⟩
    walk_at "no"
    refine ⟨_, rfl, ta, CT K, dx, _, _, rfl, hG _ _ hta, C0, noat_Term_text T, tf_text, _, rfl, G, _, _, rfl, hG, hm0, hw0, fun H1 s1 => ⟨rfl, _, rfl, ?_⟩⟩
    walk_at "no"
    refine ⟨_, rfl, ta, dx, _, _, rfl, s1.gh _ _ hta, ⟨G, _, s1.gh, ht0, rfl⟩, _, rfl, ta, CT K, dx, _, _, rfl, s1.gh _ _ hta, C0, noat_Term_text T, tf_text, rfl, _, rfl, ?_⟩
    walk_at "no"
    refine ⟨_, rfl, ta, CT K, dx, _, _, rfl, s1.gh _ _ hta, C0, noat_Term_parts T, tf_parts, _, rfl, l, p, tv, pv', rfl, SqL.of (s1.gh _ _ hl), SqT.of (s1.gh _ _ hp), fun D hD => ?_⟩
    have gD : G D = none := s1.gh.free hD
    refine lc_zipM (K := K) (a := l) (b := p) (xs := tv) (ys := pv') (htt.len.trans hts.len.symm) (fun i H' => Step none G H G H' ∧ H' D = some (.lst ((List.replicate i true).map V.bl))) ⟨s1.loc (s1.free hD) gD, upd_same⟩ ?_ ?_ ?_
    · rintro i H' ⟨st, _⟩
      exact ⟨SqL.of (st.gh _ _ hl), SqT.of (st.gh _ _ hp)⟩
    · rintro i x y Z H' hx hy ⟨st, hL⟩ hZ
      obtain ⟨t, ht, mt⟩ := get_pair hts.len hy
      have hn : Z ≠ D := fun e => by rw [e, hL] at hZ; cases hZ
      have s2 := st.loc (o := .tup [x, y]) (st.free hZ) (st.gh.free hZ)
      refine ⟨Z, _, rfl, SqT.of upd_same, rfl, _, _, rfl, _, _, rfl, rfl, rfl, ?_⟩
      unfold tYes
      refine iteT ⟨_, rfl, _, rfl, G, t, x, y, rfl, s2.gh, htt.get hx ht, hts.get hy ht, hs t mt, fun H2 s3 => ⟨_, s3.same _ _ ((upd_ne hn.symm).trans hL), ?_, (s2.trans s3).loc (s1.free hD) gD, ?_⟩⟩
      · have := sh.t3
        have := (List.getElem?_eq_some_iff.mp ht).1
        rw [List.length_map, List.length_replicate]
        omega
      · rw [upd_same, rep_app]
    rintro H' ⟨st, hL⟩
    refine ⟨D, _, rfl, SqL.of hL, ?_⟩
    rw [all_rep]
    exact q H' st
end Pf
namespace Bs
open PySem PySem.Spec PyProof.Rows L2 SX
/-! ### a term's text tells the term -/
theorem NameOk.nm {w : List Nat} (h : NameOk (S w)) : Nm w := h.1
def End1 (r : List Nat) : Prop := ∀ c, r.head? = some c → ¬ sgn c
theorem End1.nil : End1 [] := fun c h => by cases h
theorem End1.cons {c : Nat} {r : List Nat} (h : ¬ sgn c) : End1 (c :: r) := fun d e => by cases e; exact h
theorem span : ∀ {w w' r r' : List Nat}, (∀ c ∈ w, sgn c) → (∀ c ∈ w', sgn c) → End1 r → End1 r' → w ++ r = w' ++ r' → w = w' ∧ r = r'
  | [], [], _, _, _, _, _, _, e => ⟨rfl, e⟩
  | [], c :: w', r, r', _, h', hr, _, e => by
    have e1 : r = c :: (w' ++ r') := e
    exact absurd (h' c List.mem_cons_self) (hr c (by rw [e1]; rfl))
  | c :: w, [], r, r', h, _, _, hr', e => by
    have e1 : c :: (w ++ r) = r' := e
    exact absurd (h c List.mem_cons_self) (hr' c (by rw [← e1]; rfl))
  | c :: w, d :: w', r, r', h, h', hr, hr', e => by
    have e1 : c :: (w ++ r) = d :: (w' ++ r') := e
    obtain ⟨rfl, e2⟩ := List.cons.inj e1
    obtain ⟨rfl, e3⟩ := span (fun c hc => h c (List.mem_cons_of_mem _ hc)) (fun c hc => h' c (List.mem_cons_of_mem _ hc)) hr hr' e2
    exact ⟨rfl, e3⟩
def Tl (r : List Nat) : Prop := r = [] ∨ ∃ c q, r = c :: q ∧ (c = 44 ∨ c = 41 ∨ c = 93)
theorem no_sgn : ¬ sgn 44 ∧ ¬ sgn 41 ∧ ¬ sgn 93 ∧ ¬ sgn 46 ∧ ¬ sgn 39 ∧ ¬ sgn 40 ∧ ¬ sgn 91 ∧ ¬ sgn 64 ∧ ¬ sgn 32 := by
  unfold sgn ltr
  omega
theorem Tl.end1 {r : List Nat} (h : Tl r) : End1 r := by
  rcases h with rfl | ⟨c, q, rfl, h | h | h⟩
  · exact End1.nil
  · exact End1.cons (h ▸ no_sgn.1)
  · exact End1.cons (h ▸ no_sgn.2.1)
  · exact End1.cons (h ▸ no_sgn.2.2.1)
theorem row_txt {t : Mt} (h : IsRow t) : ∃ (w : List Nat) (b : Bool), t = .mk .row w [] b ∧ NameOk (S w) ∧ t.txt = w ++ (if b = true then [39] else []) := by
  cases h with
  | @mk w b h =>
    refine ⟨w, b, rfl, h, ?_⟩
    rw [Mt.txt_mk]
    unfold tx
    cases b <;> simp
theorem col_txt {w : List Nat} {r : Mt} {b : Bool} : (Mt.mk .column w [r] b).txt = r.txt ++ [46] ++ w := by
  rw [Mt.txt_mk]
  rfl
theorem fn_txt {w : List Nat} {ts : List Mt} {b : Bool} : (Mt.mk .func w ts b).txt = w ++ [40] ++ TL.joinL [44, 32] (ts.map Mt.txt) ++ [41] := by
  rw [Mt.txt_mk]
  rfl
theorem rule_txt {w : List Nat} {ts : List Mt} {b : Bool} : (Mt.mk .rule w ts b).txt = w ++ [91] ++ TL.joinL [44, 32] (ts.map Mt.txt) ++ [93] := by
  rw [Mt.txt_mk]
  rfl
/-- one text before another, told apart by what follows -/
def InjV (t : Mt) : Prop := ∀ {n : Nat} {t' : Mt} {r r' : List Nat}, IsVal n t' → Tl r → Tl r' → t.txt ++ r = t'.txt ++ r' → t = t' ∧ r = r'
theorem join_inj {z : Nat} (hz : z = 41 ∨ z = 93) : ∀ {ts ts' : List Mt} {n : Nat} {r r' : List Nat}, (∀ t ∈ ts, InjV t) → (∀ t ∈ ts', IsVal n t) → 1 ≤ ts.length → 1 ≤ ts'.length →
    TL.joinL [44, 32] (ts.map Mt.txt) ++ (z :: r) = TL.joinL [44, 32] (ts'.map Mt.txt) ++ (z :: r') → ts = ts' ∧ r = r'
  | [], _, _, _, _, _, _, h, _, _ => absurd h (by simp)
  | _ :: _, [], _, _, _, _, _, _, h, _ => absurd h (by simp)
  | [t], [t'], n, r, r', h1, h2, _, _, e => by
    have tl : ∀ q : List Nat, Tl (z :: q) := fun q => .inr ⟨z, q, rfl, .inr hz⟩
    obtain ⟨rfl, e2⟩ := h1 t List.mem_cons_self (h2 t' List.mem_cons_self) (tl r) (tl r') e
    exact ⟨rfl, (List.cons.inj e2).2⟩
  | [t], t' :: u' :: q', n, r, r', h1, h2, _, _, e => by
    have tl : ∀ q : List Nat, Tl (z :: q) := fun q => .inr ⟨z, q, rfl, .inr hz⟩
    have e1 : t.txt ++ (z :: r) = t'.txt ++ (44 :: (32 :: (TL.joinL [44, 32] ((u' :: q').map Mt.txt) ++ (z :: r')))) := by
      rw [show t.txt ++ (z :: r) = TL.joinL [44, 32] ([t].map Mt.txt) ++ (z :: r) from rfl, e]
      simp [TL.joinL]
    obtain ⟨_, e2⟩ := h1 t List.mem_cons_self (h2 t' List.mem_cons_self) (tl r) (.inr ⟨44, _, rfl, .inl rfl⟩) e1
    have := (List.cons.inj e2).1
    omega
  | t :: u :: q, [t'], n, r, r', h1, h2, _, _, e => by
    have tl : ∀ q : List Nat, Tl (z :: q) := fun q => .inr ⟨z, q, rfl, .inr hz⟩
    have e1 : t.txt ++ (44 :: (32 :: (TL.joinL [44, 32] ((u :: q).map Mt.txt) ++ (z :: r)))) = t'.txt ++ (z :: r') := by
      rw [show t'.txt ++ (z :: r') = TL.joinL [44, 32] ([t'].map Mt.txt) ++ (z :: r') from rfl, ← e]
      simp [TL.joinL]
    obtain ⟨_, e2⟩ := h1 t List.mem_cons_self (h2 t' List.mem_cons_self) (.inr ⟨44, _, rfl, .inl rfl⟩) (tl r') e1
    have := (List.cons.inj e2).1
    omega
  | t :: u :: q, t' :: u' :: q', n, r, r', h1, h2, _, _, e => by
    have e1 : t.txt ++ (44 :: (32 :: (TL.joinL [44, 32] ((u :: q).map Mt.txt) ++ (z :: r)))) = t'.txt ++ (44 :: (32 :: (TL.joinL [44, 32] ((u' :: q').map Mt.txt) ++ (z :: r')))) := by
      have e0 : TL.joinL [44, 32] ((t :: u :: q).map Mt.txt) ++ (z :: r) = TL.joinL [44, 32] ((t' :: u' :: q').map Mt.txt) ++ (z :: r') := e
      simpa [TL.joinL] using e0
    obtain ⟨rfl, e2⟩ := h1 t List.mem_cons_self (h2 t' List.mem_cons_self) (.inr ⟨44, _, rfl, .inl rfl⟩) (.inr ⟨44, _, rfl, .inl rfl⟩) e1
    obtain ⟨e3, e4⟩ := join_inj hz (ts := u :: q) (ts' := u' :: q') (n := n) (r := r) (r' := r') (fun t ht => h1 t (List.mem_cons_of_mem _ ht)) (fun t ht => h2 t (List.mem_cons_of_mem _ ht)) (by simp) (by simp) (List.cons.inj (List.cons.inj e2).2).2
    exact ⟨by rw [e3], e4⟩
theorem val_inj : ∀ {n : Nat} {t : Mt}, IsVal n t → InjV t := fun {n t} h => by
  induction h with
  | @col n w r h hr =>
    intro n' t' q q' h' tq tq' e
    obtain ⟨w0, b0, rfl, hw0, er⟩ := row_txt hr
    rw [col_txt, er] at e
    cases h' with
    | @col n' w' r' hh' hr' =>
      obtain ⟨w1, b1, rfl, hw1, er'⟩ := row_txt hr'
      rw [col_txt, er'] at e
      have e1 : w0 ++ ((if b0 = true then [39] else []) ++ (46 :: (w ++ q))) = w1 ++ ((if b1 = true then [39] else []) ++ (46 :: (w' ++ q'))) := by simpa using e
      have en : ∀ (b : Bool) (x : List Nat), End1 ((if b = true then [39] else []) ++ (46 :: x)) := fun b x => by
        cases b
        · exact End1.cons no_sgn.2.2.2.1
        · exact End1.cons no_sgn.2.2.2.2.1
      obtain ⟨rfl, e2⟩ := span hw0.nm.sg hw1.nm.sg (en _ _) (en _ _) e1
      have e3 : b0 = b1 ∧ w ++ q = w' ++ q' := by
        cases b0 <;> cases b1 <;> simp at e2 ⊢ <;> exact e2
      obtain ⟨rfl, e4⟩ := e3
      obtain ⟨rfl, e5⟩ := span h.nm.sg hh'.nm.sg tq.end1 tq'.end1 e4
      exact ⟨rfl, e5⟩
    | @fn n' w' ts' hh' h1' h3' hs' =>
      rw [fn_txt] at e
      have e1 : w0 ++ ((if b0 = true then [39] else []) ++ (46 :: (w ++ q))) = w' ++ (40 :: (TL.joinL [44, 32] (ts'.map Mt.txt) ++ (41 :: q'))) := by simpa using e
      have en : End1 ((if b0 = true then [39] else []) ++ (46 :: (w ++ q))) := by
        cases b0
        · exact End1.cons no_sgn.2.2.2.1
        · exact End1.cons no_sgn.2.2.2.2.1
      obtain ⟨_, e2⟩ := span hw0.nm.sg hh'.nm.sg en (End1.cons no_sgn.2.2.2.2.2.1) e1
      cases b0 <;> simp at e2
  | @fn n w ts h h1 h3 hs ih =>
    intro n' t' q q' h' tq tq' e
    rw [fn_txt] at e
    cases h' with
    | @col n' w' r' hh' hr' =>
      obtain ⟨w1, b1, rfl, hw1, er'⟩ := row_txt hr'
      rw [col_txt, er'] at e
      have e1 : w ++ (40 :: (TL.joinL [44, 32] (ts.map Mt.txt) ++ (41 :: q))) = w1 ++ ((if b1 = true then [39] else []) ++ (46 :: (w' ++ q'))) := by simpa using e
      have en : End1 ((if b1 = true then [39] else []) ++ (46 :: (w' ++ q'))) := by
        cases b1
        · exact End1.cons no_sgn.2.2.2.1
        · exact End1.cons no_sgn.2.2.2.2.1
      obtain ⟨_, e2⟩ := span h.nm.sg hw1.nm.sg (End1.cons no_sgn.2.2.2.2.2.1) en e1
      cases b1 <;> simp at e2
    | @fn n' w' ts' hh' h1' h3' hs' =>
      rw [fn_txt] at e
      have e1 : w ++ (40 :: (TL.joinL [44, 32] (ts.map Mt.txt) ++ (41 :: q))) = w' ++ (40 :: (TL.joinL [44, 32] (ts'.map Mt.txt) ++ (41 :: q'))) := by simpa using e
      obtain ⟨rfl, e2⟩ := span h.nm.sg hh'.nm.sg (End1.cons no_sgn.2.2.2.2.2.1) (End1.cons no_sgn.2.2.2.2.2.1) e1
      obtain ⟨rfl, e3⟩ := join_inj (.inl rfl) (fun t ht => ih t ht) hs' h1 h1' (List.cons.inj e2).2
      exact ⟨rfl, e3⟩
end Bs
namespace Bs
open PySem PySem.Spec PyProof.Rows L2 SX
/-! ### good terms: texts tell them -/
inductive Gd : Mt → Prop where
  | row {t : Mt} (h : IsRow t) : Gd t
  | place {r : Mt} (h : IsRow r) : Gd (.mk .place [] [r] false)
  | zero : Gd (.mk .zero [] [] false)
  | val {n : Nat} {t : Mt} (h : IsVal n t) : Gd t
  | rule {n : Nat} {w : List Nat} {ts : List Mt} (h : NameOk (S w)) (h1 : 1 ≤ ts.length) (hs : ∀ t ∈ ts, IsVal n t) : Gd (.mk .rule w ts false)
theorem IsTerm.gd {t : Mt} (h : IsTerm t) : Gd t := by
  cases h with
  | row h => exact .row h
  | place h => exact .place h
  | zero => exact .zero
  | val h => exact .val h
  | rule h h1 h3 hs => exact .rule h h1 hs
theorem Gd.part {t : Mt} (h : Gd t) : ∀ {so : So} {w : List Nat} {ts : List Mt} {b : Bool}, t = .mk so w ts b → ∀ u ∈ ts, Gd u := by
  intro so w ts b e u hu
  cases h with
  | row h => cases h; cases e; cases hu
  | place h => cases e; rw [List.mem_singleton.mp hu]; exact .row h
  | zero => cases e; cases hu
  | val h =>
    cases h with
    | col h hr => cases e; rw [List.mem_singleton.mp hu]; exact .row hr
    | fn h h1 h3 hs => cases e; exact .val (hs u hu)
  | rule h h1 hs => cases e; exact .val (hs u hu)
theorem nm_head {w q : List Nat} (h : Nm w) : ∃ c, (w ++ q).head? = some c ∧ ltr c := by
  cases w with
  | nil => exact absurd h.pos (by simp)
  | cons c r => exact ⟨c, rfl, h.hd c rfl⟩
theorem val_shape {n : Nat} {t : Mt} (h : IsVal n t) : ∃ w q : List Nat, Nm w ∧ t.txt = w ++ q ∧ ((∃ x, q = 46 :: x) ∨ (∃ x, q = 39 :: 46 :: x) ∨ ∃ x, q = 40 :: x) := by
  cases h with
  | @col n w r h hr =>
    obtain ⟨w0, b0, rfl, hw0, er⟩ := row_txt hr
    rw [col_txt, er]
    cases b0
    · exact ⟨w0, 46 :: w, hw0.nm, by simp, .inl ⟨_, rfl⟩⟩
    · exact ⟨w0, 39 :: 46 :: w, hw0.nm, by simp, .inr (.inl ⟨_, rfl⟩)⟩
  | @fn n w ts h h1 h3 hs =>
    rw [fn_txt]
    exact ⟨w, 40 :: (TL.joinL [44, 32] (ts.map Mt.txt) ++ [41]), h.nm, by simp, .inr (.inr ⟨_, rfl⟩)⟩
theorem row_shape {t : Mt} (h : IsRow t) : ∃ w q : List Nat, Nm w ∧ t.txt = w ++ q ∧ (q = [] ∨ q = [39]) := by
  obtain ⟨w, b, rfl, hw, e⟩ := row_txt h
  exact ⟨w, _, hw.nm, e, by cases b <;> simp⟩
theorem rule_shape {w : List Nat} {ts : List Mt} (h : NameOk (S w)) : ∃ w' q : List Nat, Nm w' ∧ (Mt.mk .rule w ts false).txt = w' ++ q ∧ ∃ x, q = 91 :: x :=
  ⟨w, 91 :: (TL.joinL [44, 32] (ts.map Mt.txt) ++ [93]), h.nm, by rw [rule_txt]; simp, _, rfl⟩
theorem place_txt {r : Mt} : (Mt.mk .place [] [r] false).txt = 64 :: r.txt := by
  rw [Mt.txt_mk]
  rfl
theorem zero_txt : (Mt.mk .zero [] [] false).txt = [48] := by
  rw [Mt.txt_mk]
  rfl
theorem ends {q : List Nat} (h : q = [] ∨ q = [39] ∨ (∃ x, q = 46 :: x) ∨ (∃ x, q = 39 :: 46 :: x) ∨ (∃ x, q = 40 :: x) ∨ ∃ x, q = 91 :: x) : End1 q := by
  rcases h with rfl | rfl | ⟨x, rfl⟩ | ⟨x, rfl⟩ | ⟨x, rfl⟩ | ⟨x, rfl⟩
  · exact End1.nil
  · exact End1.cons no_sgn.2.2.2.2.1
  · exact End1.cons no_sgn.2.2.2.1
  · exact End1.cons no_sgn.2.2.2.2.1
  · exact End1.cons no_sgn.2.2.2.2.2.1
  · exact End1.cons no_sgn.2.2.2.2.2.2.1
theorem row_val {n : Nat} {t t' : Mt} (h : IsRow t) (h' : IsVal n t') : t.txt ≠ t'.txt := fun e => by
  obtain ⟨w, q, hw, e1, hq⟩ := row_shape h
  obtain ⟨w', q', hw', e1', hq'⟩ := val_shape h'
  rw [e1, e1'] at e
  obtain ⟨_, e2⟩ := span hw.sg hw'.sg (ends (by rcases hq with h | h <;> simp [h])) (ends (by rcases hq' with h | h | h <;> simp [h])) e
  rcases hq with rfl | rfl <;> rcases hq' with ⟨x, rfl⟩ | ⟨x, rfl⟩ | ⟨x, rfl⟩ <;> simp at e2
theorem row_rule {w0 : List Nat} {ts : List Mt} {t : Mt} (h : IsRow t) (h' : NameOk (S w0)) : t.txt ≠ (Mt.mk .rule w0 ts false).txt := fun e => by
  obtain ⟨w, q, hw, e1, hq⟩ := row_shape h
  obtain ⟨w', q', hw', e1', hq'⟩ := rule_shape (ts := ts) h'
  rw [e1, e1'] at e
  obtain ⟨_, e2⟩ := span hw.sg hw'.sg (ends (by rcases hq with h | h <;> simp [h])) (ends (by simp [hq'])) e
  obtain ⟨x, rfl⟩ := hq'
  rcases hq with rfl | rfl <;> simp at e2
theorem val_rule {n : Nat} {w0 : List Nat} {ts : List Mt} {t : Mt} (h : IsVal n t) (h' : NameOk (S w0)) : t.txt ≠ (Mt.mk .rule w0 ts false).txt := fun e => by
  obtain ⟨w, q, hw, e1, hq⟩ := val_shape h
  obtain ⟨w', q', hw', e1', hq'⟩ := rule_shape (ts := ts) h'
  rw [e1, e1'] at e
  obtain ⟨_, e2⟩ := span hw.sg hw'.sg (ends (by rcases hq with h | h | h <;> simp [h])) (ends (by simp [hq'])) e
  obtain ⟨x, rfl⟩ := hq'
  rcases hq with ⟨y, rfl⟩ | ⟨y, rfl⟩ | ⟨y, rfl⟩ <;> simp at e2
theorem nm_ne {w q r : List Nat} {c : Nat} (h : Nm w) (hc : ¬ ltr c) : w ++ q ≠ c :: r := fun e => by
  obtain ⟨d, h1, h2⟩ := nm_head (q := q) h
  rw [e] at h1
  cases h1
  exact hc h2
theorem l64 : ¬ ltr 64 ∧ ¬ ltr 48 := by unfold ltr; omega
theorem row_inj {t t' : Mt} (h : IsRow t) (h' : IsRow t') (e : t.txt = t'.txt) : t = t' := by
  obtain ⟨w, b, rfl, hw, e1⟩ := row_txt h
  obtain ⟨w', b', rfl, hw', e1'⟩ := row_txt h'
  rw [e1, e1'] at e
  have en : ∀ b : Bool, End1 (if b = true then [39] else []) := fun b => by
    cases b
    · exact End1.nil
    · exact End1.cons no_sgn.2.2.2.2.1
  obtain ⟨rfl, e2⟩ := span hw.nm.sg hw'.nm.sg (en _) (en _) e
  have : b = b' := by cases b <;> cases b' <;> simp at e2 ⊢
  rw [this]
theorem txt_inj {t t' : Mt} (h : Gd t) (h' : Gd t') (e : t.txt = t'.txt) : t = t' := by
  have hd : ∀ {u : Mt} {c : Nat} {r : List Nat}, (∃ w q : List Nat, Nm w ∧ u.txt = w ++ q ∧ True) → ¬ ltr c → u.txt ≠ c :: r := fun ⟨w, q, hw, e, _⟩ hc e2 => nm_ne hw hc (e ▸ e2)
  have rw_ : ∀ {u : Mt}, IsRow u → ∃ w q : List Nat, Nm w ∧ u.txt = w ++ q ∧ True := fun h => let ⟨w, q, a, b, _⟩ := row_shape h; ⟨w, q, a, b, trivial⟩
  have vl_ : ∀ {n : Nat} {u : Mt}, IsVal n u → ∃ w q : List Nat, Nm w ∧ u.txt = w ++ q ∧ True := fun h => let ⟨w, q, a, b, _⟩ := val_shape h; ⟨w, q, a, b, trivial⟩
  have rl_ : ∀ {w0 : List Nat} {ts : List Mt}, NameOk (S w0) → ∃ w q : List Nat, Nm w ∧ (Mt.mk .rule w0 ts false).txt = w ++ q ∧ True := fun {w0 ts} h => let ⟨w, q, a, b, _⟩ := rule_shape (ts := ts) h; ⟨w, q, a, b, trivial⟩
  cases h with
  | row h =>
    cases h' with
    | row h' => exact row_inj h h' e
    | place h' => exact absurd (e.trans place_txt) (hd (rw_ h) l64.1)
    | zero => exact absurd (e.trans zero_txt) (hd (rw_ h) l64.2)
    | val h' => exact absurd e (row_val h h')
    | rule h' _ _ => exact absurd e (row_rule h h')
  | place h =>
    cases h' with
    | row h' => exact absurd (e.symm.trans place_txt) (hd (rw_ h') l64.1)
    | place h' =>
      rw [place_txt, place_txt] at e
      rw [row_inj h h' (List.cons.inj e).2]
    | zero => rw [place_txt, zero_txt] at e; simp at e
    | val h' => exact absurd (e.symm.trans place_txt) (hd (vl_ h') l64.1)
    | rule h' _ _ => exact absurd (e.symm.trans place_txt) (hd (rl_ h') l64.1)
  | zero =>
    cases h' with
    | row h' => exact absurd (e.symm.trans zero_txt) (hd (rw_ h') l64.2)
    | place h' => rw [place_txt, zero_txt] at e; simp at e
    | zero => rfl
    | val h' => exact absurd (e.symm.trans zero_txt) (hd (vl_ h') l64.2)
    | rule h' _ _ => exact absurd (e.symm.trans zero_txt) (hd (rl_ h') l64.2)
  | val h =>
    cases h' with
    | row h' => exact absurd e.symm (row_val h' h)
    | place h' => exact absurd (e.trans place_txt) (hd (vl_ h) l64.1)
    | zero => exact absurd (e.trans zero_txt) (hd (vl_ h) l64.2)
    | val h' => exact (val_inj h h' (.inl rfl) (.inl rfl) (by rw [e])).1
    | rule h' _ _ => exact absurd e (val_rule h h')
  | @rule n w ts h h1 hs =>
    cases h' with
    | row h' => exact absurd e.symm (row_rule h' h)
    | place h' => exact absurd (e.trans place_txt) (hd (rl_ h) l64.1)
    | zero => exact absurd (e.trans zero_txt) (hd (rl_ h) l64.2)
    | val h' => exact absurd e.symm (val_rule h' h)
    | @rule n' w' ts' h' h1' hs' =>
      rw [rule_txt, rule_txt] at e
      have e1 : w ++ (91 :: (TL.joinL [44, 32] (ts.map Mt.txt) ++ (93 :: []))) = w' ++ (91 :: (TL.joinL [44, 32] (ts'.map Mt.txt) ++ (93 :: []))) := by simpa using e
      obtain ⟨rfl, e2⟩ := span h.nm.sg h'.nm.sg (End1.cons no_sgn.2.2.2.2.2.2.1) (End1.cons no_sgn.2.2.2.2.2.2.1) e1
      obtain ⟨rfl, _⟩ := join_inj (.inr rfl) (fun t ht => val_inj (hs t ht)) hs' h1 h1' (List.cons.inj e2).2
      rfl
/-! ### subterms, each once -/
theorem Mt.ind {P : Mt → Prop} (h : ∀ so w ts b, (∀ t ∈ ts, P t) → P (.mk so w ts b)) (t : Mt) : P t := by
  have gen : ∀ (n : Nat) (t : Mt), t.dep ≤ n → P t := fun n => by
    induction n with
    | zero =>
      intro t ht
      cases t with
      | mk so w ts b => rw [Mt.dep_mk] at ht; omega
    | succ n ih =>
      intro t ht
      cases t with
      | mk so w ts b => exact h so w ts b fun u hu => ih u (by have := Mt.dep_part (so := so) (w := w) (b := b) hu; omega)
  exact gen t.dep t (Nat.le_refl _)
def sub : Mt → List Mt
  | .mk so w ts b => (ts.map sub).flatten ++ [.mk so w ts b]
theorem sub_mk (so : So) (w : List Nat) (ts : List Mt) (b : Bool) : sub (.mk so w ts b) = (ts.map sub).flatten ++ [.mk so w ts b] := by rw [sub]
theorem sub_mem {so : So} {w : List Nat} {ts : List Mt} {b : Bool} {s : Mt} : s ∈ sub (.mk so w ts b) ↔ (∃ t ∈ ts, s ∈ sub t) ∨ s = .mk so w ts b := by
  rw [sub_mk, List.mem_append, List.mem_singleton, List.mem_flatten]
  constructor
  · rintro (⟨l, hl, hs⟩ | h)
    · obtain ⟨t, ht, rfl⟩ := List.mem_map.mp hl
      exact .inl ⟨t, ht, hs⟩
    · exact .inr h
  · rintro (⟨t, ht, hs⟩ | h)
    · exact .inl ⟨sub t, List.mem_map_of_mem ht, hs⟩
    · exact .inr h
theorem sub_self (t : Mt) : t ∈ sub t := by
  cases t with
  | mk so w ts b => exact sub_mem.mpr (.inr rfl)
theorem sub_gd (t : Mt) : Gd t → ∀ s ∈ sub t, Gd s := by
  induction t using Mt.ind with
  | h so w ts b ih =>
    intro h s hs
    rcases sub_mem.mp hs with ⟨t, ht, hs⟩ | rfl
    · exact ih t ht (h.part rfl t ht) s hs
    · exact h
theorem sub_trans (t : Mt) : ∀ s ∈ sub t, ∀ u ∈ sub s, u ∈ sub t := by
  induction t using Mt.ind with
  | h so w ts b ih =>
    intro s hs u hu
    rcases sub_mem.mp hs with ⟨t, ht, hs⟩ | rfl
    · exact sub_mem.mpr (.inl ⟨t, ht, ih t ht s hs u hu⟩)
    · exact hu
theorem sub_dep (t : Mt) : ∀ s ∈ sub t, s.dep ≤ t.dep := by
  induction t using Mt.ind with
  | h so w ts b ih =>
    intro s hs
    rcases sub_mem.mp hs with ⟨t, ht, hs⟩ | rfl
    · have h1 := ih t ht s hs
      have h2 := Mt.dep_part (so := so) (w := w) (b := b) ht
      omega
    · exact Nat.le_refl _
def addO (acc : List Mt) (m : Mt) : List Mt := if m.txt ∈ acc.map Mt.txt then acc else acc ++ [m]
def fo (l acc : List Mt) : List Mt := l.foldl addO acc
theorem fo_app (l1 l2 acc : List Mt) : fo (l1 ++ l2) acc = fo l2 (fo l1 acc) := List.foldl_append
def AllG (l : List Mt) : Prop := ∀ x ∈ l, Gd x
theorem in_txt {acc : List Mt} {m : Mt} (h : AllG acc) (hm : Gd m) : m.txt ∈ acc.map Mt.txt ↔ m ∈ acc := by
  constructor
  · intro e
    obtain ⟨x, hx, ex⟩ := List.mem_map.mp e
    rw [← txt_inj (h x hx) hm ex]
    exact hx
  · exact fun e => List.mem_map_of_mem e
theorem addO_in {acc : List Mt} {m : Mt} (h : m.txt ∈ acc.map Mt.txt) : addO acc m = acc := if_pos h
theorem addO_out {acc : List Mt} {m : Mt} (h : ¬ m.txt ∈ acc.map Mt.txt) : addO acc m = acc ++ [m] := if_neg h
theorem mem_addO {acc : List Mt} {m x : Mt} (h : AllG acc) (hm : Gd m) : x ∈ addO acc m ↔ x ∈ acc ∨ x = m := by
  by_cases c : m.txt ∈ acc.map Mt.txt
  · rw [addO_in c]
    exact ⟨.inl, fun e => e.elim id fun e => e ▸ (in_txt h hm).mp c⟩
  · rw [addO_out c, List.mem_append, List.mem_singleton]
theorem AllG.addO {acc : List Mt} {m : Mt} (h : AllG acc) (hm : Gd m) : AllG (addO acc m) := fun x hx => ((mem_addO h hm).mp hx).elim (h x) fun e => e ▸ hm
theorem AllG.fo : ∀ {l acc : List Mt}, AllG acc → AllG l → AllG (fo l acc)
  | [], _, h, _ => h
  | m :: l, acc, h, hl => AllG.fo (l := l) (h.addO (hl m List.mem_cons_self)) fun x hx => hl x (List.mem_cons_of_mem _ hx)
theorem mem_fo : ∀ {l acc : List Mt} {x : Mt}, AllG acc → AllG l → (x ∈ Bs.fo l acc ↔ x ∈ acc ∨ x ∈ l)
  | [], _, _, _, _ => ⟨.inl, fun e => e.elim id fun z => by cases z⟩
  | m :: l, acc, x, h, hl => by
    have hm := hl m List.mem_cons_self
    have z := mem_fo (l := l) (acc := Bs.addO acc m) (x := x) (h.addO hm) fun x hx => hl x (List.mem_cons_of_mem _ hx)
    rw [show Bs.fo (m :: l) acc = Bs.fo l (Bs.addO acc m) from rfl, z, mem_addO h hm, List.mem_cons]
    exact or_assoc
theorem fo_same : ∀ {l acc : List Mt}, AllG acc → AllG l → (∀ x ∈ l, x ∈ acc) → Bs.fo l acc = acc
  | [], _, _, _, _ => rfl
  | m :: l, acc, h, hl, hs => by
    have hm := hl m List.mem_cons_self
    rw [show Bs.fo (m :: l) acc = Bs.fo l (Bs.addO acc m) from rfl, addO_in ((in_txt h hm).mpr (hs m List.mem_cons_self))]
    exact fo_same h (fun x hx => hl x (List.mem_cons_of_mem _ hx)) fun x hx => hs x (List.mem_cons_of_mem _ hx)
theorem fo_len : ∀ {l acc : List Mt}, (Bs.fo l acc).length ≤ acc.length + l.length
  | [], _ => Nat.le_refl _
  | m :: l, acc => by
    have z := fo_len (l := l) (acc := Bs.addO acc m)
    have y : (Bs.addO acc m).length ≤ acc.length + 1 := by
      unfold Bs.addO
      split
      · exact Nat.le_succ _
      · rw [List.length_append]; exact Nat.le_refl _
    rw [show Bs.fo (m :: l) acc = Bs.fo l (Bs.addO acc m) from rfl, List.length_cons]
    omega
def Clo (acc : List Mt) : Prop := ∀ m ∈ acc, ∀ s ∈ sub m, s ∈ acc
theorem Clo.fo {acc : List Mt} {m : Mt} (h : AllG acc) (c : Clo acc) (hm : Gd m) : Clo (Bs.fo (sub m) acc) := fun x hx s hs => by
  have hg := sub_gd m hm
  rcases (mem_fo h hg).mp hx with q | q
  · exact (mem_fo h hg).mpr (.inl (c x q s hs))
  · exact (mem_fo h hg).mpr (.inr (sub_trans m x q s hs))
theorem fo_skip {acc : List Mt} {m : Mt} (h : AllG acc) (c : Clo acc) (hm : Gd m) (e : m.txt ∈ acc.map Mt.txt) : Bs.fo (sub m) acc = acc :=
  fo_same h (sub_gd m hm) fun x hx => c m ((in_txt h hm).mp e) x hx
/-- behind the parts the whole is new, if it was not there -/
theorem fo_new {so : So} {w : List Nat} {ts : List Mt} {b : Bool} {acc : List Mt} (h : AllG acc) (hm : Gd (.mk so w ts b)) (e : ¬ (Mt.mk so w ts b).txt ∈ acc.map Mt.txt) :
    ¬ (Mt.mk so w ts b).txt ∈ (Bs.fo (ts.map sub).flatten acc).map Mt.txt ∧ Bs.fo (sub (.mk so w ts b)) acc = Bs.fo (ts.map sub).flatten acc ++ [.mk so w ts b] := by
  have hg : AllG (ts.map sub).flatten := fun x hx => sub_gd _ hm x (by rw [sub_mk]; exact List.mem_append_left _ hx)
  have n : ¬ (Mt.mk so w ts b).txt ∈ (Bs.fo (ts.map sub).flatten acc).map Mt.txt := fun z => by
    rcases (mem_fo h hg).mp ((in_txt (h.fo hg) hm).mp z) with q | q
    · exact e ((in_txt h hm).mpr q)
    · obtain ⟨l, hl, hx⟩ := List.mem_flatten.mp q
      obtain ⟨t, ht, rfl⟩ := List.mem_map.mp hl
      have h1 := sub_dep t _ hx
      have h2 := Mt.dep_part (so := so) (w := w) (b := b) ht
      omega
  refine ⟨n, ?_⟩
  rw [sub_mk, fo_app]
  exact addO_out n
theorem sub_len : ∀ {n : Nat} {t : Mt}, Wt n t → 2 * (sub t).length + 1 ≤ 3 ^ n := fun {n t} h => by
  induction h with
  | @mk n so w ts b h hs ih =>
    rw [sub_mk, List.length_append, List.length_singleton, List.length_flatten, List.map_map]
    have t3 := h.sh.t3
    have s3 : ∀ l : List Mt, (∀ t ∈ l, 2 * (sub t).length + 1 ≤ 3 ^ n) → 2 * (l.map (List.length ∘ sub)).sum + l.length ≤ l.length * 3 ^ n := fun l => by
      induction l with
      | nil => intro _; simp
      | cons x r ihr =>
        intro hx
        have h1 := hx x List.mem_cons_self
        have h2 := ihr fun t ht => hx t (List.mem_cons_of_mem _ ht)
        rw [List.map_cons, List.sum_cons, List.length_cons, Nat.add_mul]
        show 2 * ((sub x).length + _) + _ ≤ _
        omega
    have z := s3 ts ih
    have p : 1 ≤ 3 ^ n := Nat.one_le_pow n 3 (by decide)
    have m3 : ts.length * 3 ^ n ≤ 3 * 3 ^ n := Nat.mul_le_mul_right _ t3
    rw [Nat.pow_succ]
    have m4 : ts.length * 3 ^ n + (3 - ts.length) * 3 ^ n = 3 * 3 ^ n := by rw [← Nat.add_mul]; congr 1; omega
    have m5 : (3 - ts.length) ≤ (3 - ts.length) * 3 ^ n := Nat.le_mul_of_pos_right _ p
    omega
end Bs
namespace Bs
open PySem PySem.Spec PyProof.Rows L2 SX
/-! ### the dict of texts and terms -/
def kd : List Mt → List V → List (Key × V)
  | m :: ms, v :: vs => (Sum.inr (S m.txt), v) :: kd ms vs
  | _, _ => []
theorem kd_app : ∀ {ms : List Mt} {vs : List V} {m : Mt} {v : V}, vs.length = ms.length → kd (ms ++ [m]) (vs ++ [v]) = kd ms vs ++ [(Sum.inr (S m.txt), v)]
  | [], [], _, _, _ => rfl
  | [], _ :: _, _, _, h => by simp at h
  | _ :: _, [], _, _, h => by simp at h
  | m :: ms, v :: vs, m', v', h => by
    show _ :: kd (ms ++ [m']) (vs ++ [v']) = _ :: (kd ms vs ++ _)
    rw [kd_app (by simpa using h)]
theorem kd_vals : ∀ {ms : List Mt} {vs : List V}, vs.length = ms.length → (kd ms vs).map (fun kv => kv.2) = vs
  | [], [], _ => rfl
  | [], _ :: _, h => by simp at h
  | _ :: _, [], h => by simp at h
  | m :: ms, v :: vs, h => by
    show v :: (kd ms vs).map _ = _
    rw [kd_vals (by simpa using h)]
theorem kd_len : ∀ {ms : List Mt} {vs : List V}, vs.length = ms.length → (kd ms vs).length = ms.length
  | [], [], _ => rfl
  | [], _ :: _, h => by simp at h
  | _ :: _, [], h => by simp at h
  | m :: ms, v :: vs, h => by
    show (kd ms vs).length + 1 = ms.length + 1
    rw [kd_len (by simpa using h)]
theorem key_ne {a b : List Nat} (h : ¬ a = b) : ¬ ((Sum.inr (S a) : Key) = Sum.inr (S b)) := fun q => h (S_inj (Sum.inr.inj q))
theorem kd_get : ∀ {ms : List Mt} {vs : List V} {t : List Nat}, vs.length = ms.length → ((valV (kd ms vs) (Sum.inr (S t))).isSome = true ↔ t ∈ ms.map Mt.txt)
  | [], [], _, _ => ⟨(fun h => by cases h), (fun h => by cases h)⟩
  | [], _ :: _, _, h => by simp at h
  | _ :: _, [], _, h => by simp at h
  | m :: ms, v :: vs, t, h => by
    show (valV (_ :: kd ms vs) _).isSome = true ↔ _
    by_cases c : m.txt = t
    · rw [valV_pos (by rw [c])]
      exact ⟨fun _ => by rw [List.map_cons, c]; exact List.mem_cons_self, fun _ => rfl⟩
    · rw [valV_neg (key_ne c), kd_get (by simpa using h), List.map_cons, List.mem_cons]
      exact ⟨.inr, fun e => e.elim (fun z => absurd z.symm c) id⟩
/-- the program's dict of subterms: the terms of acc, by their texts -/
def Fd (C : Addr) (G H : Hp) (f : Addr) (acc : List Mt) : Prop := ∃ vs : List V, H f = some (.dK (kd acc vs)) ∧ All2 (TAt C G) vs acc
def spFind (C : Addr) (n : Nat) : Sp := fun vs H Q _ => ∃ (G : Hp) (f : Addr) (v : V) (m : Mt) (acc : List Mt), vs = [v, .ref f] ∧ Same G H ∧ G f = none ∧ TAt C G v m ∧ Wt n m ∧ Gd m ∧ AllG acc ∧ Clo acc ∧ Fd C G H f acc ∧ acc.length + (sub m).length < sizeLine ∧
  ∀ H' : Hp, Step (some f) G H G H' → Fd C G H' f (fo (sub m) acc) → Q .non H'
theorem flat_take {ts : List Mt} {i : Nat} {t : Mt} (h : ts[i]? = some t) : ((ts.take (i + 1)).map sub).flatten = ((ts.take i).map sub).flatten ++ sub t := by
  rw [take_one h, List.map_append, List.flatten_append]
  simp
theorem flat_len {ts : List Mt} {i : Nat} {t : Mt} (h : ts[i]? = some t) : ((ts.take i).map sub).flatten.length + (sub t).length ≤ (ts.map sub).flatten.length := by
  have e : ts = ts.take (i + 1) ++ ts.drop (i + 1) := (List.take_append_drop _ _).symm
  have z : (ts.map sub).flatten = ((ts.take (i + 1)).map sub).flatten ++ ((ts.drop (i + 1)).map sub).flatten := by
    rw [← List.flatten_append, ← List.map_append, ← e]
  rw [z, flat_take h, List.length_append, List.length_append]
  omega
end Bs
namespace Pf
open PySem PySem.Spec PyProof.Rows L2 Bs SX
variable {P : Program} {w : World} {K : PySem.W.Frag} {mg : Str → Option Value} {base : Heap}
abbrev N_find_subterms : List Str := ["term", "found", "part"]
theorem sc_find_subterms : FnScope N_find_subterms ["term", "found"] (defScope s_find_subterms) := ⟨rfl, rfl, rfl, by decide +kernel, rfl, by decide +kernel, by decide +kernel⟩
theorem c_find_subterms (T : Tx K mg) : ∀ n : Nat, C8.Cal P w K mg base n "_find_subterms" (spFind (CT K) n) []
  | 0 => by
    obtain ⟨fd, F⟩ := f_find_subterms T
    exact cal_none F (g_find_subterms T) (F.bindsN (ps := ["term", "found"]) fun _ _ _ _ _ _ us hl => match us, hl with | [_, _], _ => rfl) fun vs H Q E ⟨G, f, v, m, acc, _, _, _, _, h, _⟩ => nomatch h
  | n + 1 => by
    obtain ⟨fd, F⟩ := f_find_subterms T
    have c_find_subterms := c_find_subterms T n
    refine mkCal F (g_find_subterms T) (F.bindsN fun _ _ _ _ _ _ us hl => match us, hl with | [_, _], _ => rfl) .nil sc_find_subterms (fun vs H Q E h => ?_) (fun cdv A outer s H vs Q E hr h => ?_)
    · obtain ⟨G, f, v, m, acc, rfl, _⟩ := h
      rfl
    obtain ⟨G, f, v, m, acc, rfl, hG, gf, ht, hw, hg, hA, hC, ⟨dv, hf, hdv⟩, hlen, q⟩ := h
    have hu := hu_of hr
    cases hw with
    | @mk n so w ts b h2 hs =>
    obtain ⟨a, dx, l, tv, rfl, hta, hl, htt⟩ := ht.parts
    have C0 := cls_Term_ T
    refine ⟨_, (pss_cons (ps_if (pt_cmp (pc_din hu (pe_fldK (K := K) rfl (pv 0) (by rfl)) (pv 1)) (by rfl)) (pss_one ps_retN) pss_nil)
    (pss_cons (ps_for PassesOwn.never rfl (pi_listK (K := K) rfl (pe_fldK (K := K) rfl (pv 0) (by rfl))) (pg_name (i := 2) sc_find_subterms.nd rfl (Or.inl rfl)) (pss_one (ps_expr (C8.pe_c c_find_subterms hr (by first | decide | omega) rfl (pa_cons (pv 2) (pa_cons (pv 1) pa_nil))))))
    (pss_one (ps_dput hu (pv 1) (pe_fldK (K := K) rfl (pv 0) (by rfl)) (pv 0) rfl)))), ?_⟩
    refine ⟨_, rfl, a, CT K, dx, _, _, rfl, hG _ _ hta, C0, noat_Term_text T, tf_text, _, rfl, f, _, rfl, DGet.k (k := Sum.inr (S (Mt.mk so w ts b).txt)) hf, _, rfl, ?_⟩
    refine ite2 (fun c => ?_) (fun c => ?_)
    · have e := (kd_get hdv.len).mp c
      have z := q H (Step.refl hG).some_
      rw [fo_skip hA hC hg e] at z
      exact z ⟨dv, hf, hdv⟩
    · have e : ¬ (Mt.mk so w ts b).txt ∈ acc.map Mt.txt := fun z => c ((kd_get hdv.len).mpr z)
      obtain ⟨n1, n2⟩ := fo_new hA hg e
      rw [n2] at q
      have gp := hg.part rfl
      have hAf : ∀ i, AllG ((ts.take i).map sub).flatten := fun i x hx => by
        obtain ⟨y, hy, hxy⟩ := List.mem_flatten.mp hx
        obtain ⟨t, ht, rfl⟩ := List.mem_map.mp hy
        exact sub_gd t (gp t (List.mem_of_mem_take ht)) x hxy
      have hls : (sub (Mt.mk so w ts b)).length = (ts.map sub).flatten.length + 1 := by rw [sub_mk, List.length_append]; rfl
      refine ⟨_, rfl, a, CT K, dx, _, _, rfl, hG _ _ hta, C0, noat_Term_parts T, tf_parts, l, rfl, ⟨_, SqL.of (hG _ _ hl)⟩, ?_⟩
      refine for_list (K := K) (a := l) (xs := tv) (fun i σ H' => ∃ o : Option V, σ = [some (.ref a), some (.ref f), o] ∧ Step (some f) G H G H' ∧ Clo (fo ((ts.take i).map sub).flatten acc) ∧ Fd (CT K) G H' f (fo ((ts.take i).map sub).flatten acc)) ⟨none, rfl, (Step.refl hG).some_, hC, dv, hf, hdv⟩ ?_ ?_ ?_
      · rintro i σ H' _ ⟨o, rfl, st, _⟩
        exact SqL.of (st.gh _ _ hl)
      · rintro i x σ H' hx ⟨o, rfl, st, hc, hfd⟩
        obtain ⟨t, ht, mt⟩ := get_pair htt.len hx
        have h1 := flat_len ht
        have h3 := fo_len (l := ((ts.take i).map sub).flatten) (acc := acc)
        have hA' := hA.fo (hAf i)
        refine ⟨_, rfl, _, rfl, G, f, x, t, fo ((ts.take i).map sub).flatten acc, rfl, st.gh, gf, htt.get hx ht, hs t mt, gp t mt, hA', hc, hfd, by omega, fun H2 s2 hf2 => ⟨_, rfl, st.trans s2, ?_, ?_⟩⟩
        · rw [flat_take ht, fo_app]
          exact Clo.fo hA' hc (gp t mt)
        · rw [flat_take ht, fo_app]
          exact hf2
      rintro σ H' ⟨o, rfl, st, hc, dv', hf', hdv'⟩
      rw [htt.len, List.take_length] at hf' hdv'
      have h3 := fo_len (l := (ts.map sub).flatten) (acc := acc)
      have hn := (kd_get (t := (Mt.mk so w ts b).txt) hdv'.len)
      have hv : valV (kd (fo (ts.map sub).flatten acc) dv') (Sum.inr (S (Mt.mk so w ts b).txt)) = none := by
        cases e2 : valV (kd (fo (ts.map sub).flatten acc) dv') (Sum.inr (S (Mt.mk so w ts b).txt)) with
        | none => rfl
        | some y => exact absurd (hn.mp (by rw [e2]; rfl)) n1
      refine ⟨_, rfl, _, rfl, _, rfl, a, CT K, dx, _, _, rfl, st.gh _ _ hta, C0, noat_Term_text T, tf_text, f, _, rfl, DPut.k (k := Sum.inr (S (Mt.mk so w ts b).txt)) hf' (by rw [kd_len hdv'.len]; omega), ?_⟩
      rw [putK_new _ hv]
      have hk : Step (some f) G H G (upd H' f (.dK (kd (fo (ts.map sub).flatten acc) dv' ++ [(Sum.inr (S (Mt.mk so w ts b).txt), .ref a)]))) := {
        gg := Same.refl G
        gh := fun b u e => by rw [upd_ne (ne_of_none e gf)]; exact st.gh b u e
        new := fun b hb => .inl hb
        kp := fun b u e n => by rw [upd_ne (fun z => n (by rw [z]))]; exact st.kp b u e n
        pp := fun b e h => by
          cases e
          rw [upd_same]
          exact fun z => by cases z }
      refine q _ hk ⟨dv' ++ [.ref a], ?_, hdv'.app (.cons ht .nil)⟩
      rw [upd_same, kd_app hdv'.len]
end Pf
/-! Rl29: a generator's run whose consumer is any code: what it hands out is told by its number -/
namespace Gg
open PySem PySem.Spec PyProof.Rows L2 GenW
/-- while it sleeps the things at O may turn -/
structure Nap (O : List Addr) (u v : Shared) : Prop where
  os : v.os = u.os
  bare : AllBare v.gens
  keep : ∀ b o, b ∉ O → u.heap.get? b = some o → v.heap.get? b = some o
  own : ∀ b ∈ O, ∃ o, v.heap.get? b = some o ∧ ∀ x, o.data ≠ .cell x
def Far (X : Cx) (O : List Addr) : Prop := ∀ b ∈ O, X.s_0.heap.objs.size ≤ b ∧ b ≠ X.env.locals ∧ (∀ x c, X.env.cells.lookup x = some c → c ≠ b) ∧ ∀ p ∈ X.pn, p.1 ≠ b
/-- running since h0 -/
def Run (X : Cx) (O : List Addr) (h0 : Heap) (ip : List (Addr × Obj)) (σ : L2.St) (H : Hp) (s : Shared) : Prop :=
  (∀ b ∈ O, ∃ o, h0.get? b = some o) ∧ Inv X (pinsAt O h0 ++ ip) σ H s
section
variable {X : Cx} {O : List Addr} {h0 : Heap} {ip : List (Addr × Obj)} {σ : L2.St} {H : Hp} {s : Shared}
theorem Run.off (h : Run X O h0 ip σ H s) {b : Addr} (hb : b ∈ O) : H b = none ∧ b ≠ X.env.locals ∧ b ∉ X.fs ∧ ∀ o, h0.get? b = some o → s.heap.get? b = some o := by
  obtain ⟨ho, I⟩ := h
  obtain ⟨o, e⟩ := ho b hb
  have q := I.pin (b, o) (List.mem_append_right _ (List.mem_append_left _ (mem_pinsAt hb e)))
  exact ⟨q.2.1, q.2.2.1, q.2.2.2.1, fun o' e' => by rw [e] at e'; cases e'; exact q.1⟩
theorem Run.woken {v : Shared} (fa : Far X O) (hip : ∀ p ∈ ip, p.1 ∉ O) (h : Run X O h0 ip σ H s) (z : Nap O s v) : Run X O v.heap ip σ H v := by
  have off := fun b hb => h.off (b := b) hb
  obtain ⟨ho, I⟩ := h
  have I0 : Inv X ip σ H s := I.pins_of fun p hp => I.pin p (List.mem_append_right _ (List.mem_append_right _ hp))
  obtain ⟨z1, z2, z3, z4⟩ := z
  obtain ⟨hh, g, d, t, o⟩ := v
  have eo : o = s.os := z1
  subst eo
  have J : Inv X ip σ H { s with heap := hh, gens := g, drawn := d, toks := t } := by
    refine I0.step (g' := g) (t' := t) (d' := d) (ch := O) (fun b hb => ?_)
      (fun b ob _ _ hc q _ => z3 b ob hc q) (fun b ob _ _ hc q _ => ⟨ob.slots, z3 b ob hc q⟩) (fun _ _ _ _ n => n) (fun b ob hc q => ⟨ob, z3 b ob hc q⟩)
      (fun _ _ q => q) (fun _ _ _ q => q) (fun b ps q => ⟨#[], by rw [q]; simp⟩) (fun m hm => ?_) (fun b u q => ?_) z2
    · obtain ⟨f1, f2, f3, f4⟩ := fa b hb
      refine ⟨.inr f1, f2, f3, fun p hp => ?_⟩
      rcases List.mem_append.mp hp with hp | hp
      · exact f4 p hp
      · exact fun e => hip p hp (e ▸ hb)
    · obtain ⟨ob, es, ep, hob, r⟩ := hm
      exact ⟨ob, es, ep, z3 _ ob (fun hb => (off _ hb).2.1 rfl) hob, r⟩
    · refine (I0.hok b u q).stay (fun c w hc y => z3 c w (fun hb => ?_) y) (fun _ y => y) fun _ _ y => y
      rcases hc with y | y
      · rw [y] at hb; rw [(off _ hb).1] at q; cases q
      · rw [(off _ hb).1] at y; cases y
  refine ⟨fun b hb => let ⟨ob, e, _⟩ := z4 b hb; ⟨ob, e⟩, J.pins_of fun p hp => ?_⟩
  rcases List.mem_append.mp hp with hp | hp
  · obtain ⟨hb, e⟩ := of_pinsAt hp
    obtain ⟨q1, q2, q3, _⟩ := off _ hb
    obtain ⟨ob, e2, q4⟩ := z4 _ hb
    rw [show hh.get? p.1 = some p.2 from e] at e2
    cases e2
    exact ⟨e, q1, q2, q3, q4⟩
  · exact J.pin p (List.mem_append_right _ hp)
end
/-- the protocol: the thing with number i is handed out -/
def Yp (X : Cx) (O : List Addr) (F : Nat → V → Hp → Prop) : Protocol := fun n s₀ v s kap =>
  ∃ i x ip σ H, n + 1 + i = sizeLine ∧ RelV x v ∧ Run X O s₀.heap ip σ H s ∧ F i x H ∧ ∀ s', Nap O s s' → kap (.send .none) s'
/-- the end -/
def Ep (X : Cx) (O : List Addr) (Q : Nat → Hp → Prop) (F : Value → Shared → Prop) : GenEnd := fun n s₀ r s => match r with
  | .ok (.ret u) => u = .none ∧ ∃ i ip σ H, n + i = sizeLine ∧ Run X O s₀.heap ip σ H s ∧ Q i H
  | .ok _ => False
  | .error e => F e s
section
variable {X : Cx} {e : Expr} {yp pos : Pos} {O : List Addr} {ip : List (Addr × Obj)} {A : Around} {R : GenEnd} {fs : List Frame} {it : Addr} {xs : List V} {St : Nat → Heap → Prop} {σ : L2.St} {H : Hp} {F : Nat → V → Hp → Prop}
/-- the turns of «yield from» -/
theorem seg_from (fa : Far X O) (hip : ∀ p ∈ ip, p.1 ∉ O) (hpi : ∀ p ∈ X.pn ++ ip, p.1 ≠ it)
    (hex : it ∈ X.ex ∨ X.s_0.heap.objs.size ≤ it) (hL : it ≠ X.env.locals) (hcell : ∀ x c, X.env.cells.lookup x = some c → c ≠ it) (hO : it ∉ O) (hH : H it = none) (q : QIt X H it xs St)
    (ho : (A.over (.builtin "proto.yield_from" ⟨[.ref it, .bool false, .none], []⟩) fs).handled = none) (hsp : splitAtGen fs = none) (hgd : fs.any Frame.guarded = false) (hle : xs.length ≤ sizeLine) (hF : ∀ j x, xs[j]? = some x → F j x H)
    (hend : ∀ (n : Nat) (s₀ s : Shared), n + xs.length = sizeLine → Run X O s₀.heap ip σ H s → Seg (model X.prog X.w) A R (Yp X O F) n s₀ (.builtin "proto.yield_from" ⟨[.ref it, .bool false, .none], []⟩) (.pure (.done (.ret .none))) fs s) :
    ∀ (r j n : Nat) (s₀ s : Shared), j + r = xs.length → n + j = sizeLine → Run X O s₀.heap ip σ H s → St j s.heap →
      Seg (model X.prog X.w) A R (Yp X O F) n s₀ (.builtin "proto.yield_from" ⟨[.ref it, .bool false, .none], []⟩) ((model X.prog X.w).den (.builtin "proto.yield_from" ⟨[.ref it, .bool false, .none], []⟩)) fs s := by
  obtain ⟨T, hT, hcl, hng⟩ := q.ty
  have turned : ∀ {g0 : Heap} {s : Shared} {h' : Heap} {tk : Nat}, Run X O g0 ip σ H s → (∀ b o, b ≠ it → s.heap.get? b = some o → h'.get? b = some o) → Run X O g0 ip σ H { s with heap := h', toks := tk } := fun {g0 s h' tk} hI hk => by
    refine ⟨hI.1, hI.2.turned (it := it) hk hH hL hex hcell fun p hp => ?_⟩
    rcases List.mem_append.mp hp with hp | hp
    · exact hpi p (List.mem_append_left _ hp)
    · rcases List.mem_append.mp hp with hp | hp
      · exact fun z => hO (z ▸ (of_pinsAt hp).1)
      · exact hpi p (List.mem_append_right _ hp)
  intro r
  induction r with
  | zero =>
    intro j n s₀ s hj hn hI hst
    obtain rfl : j = xs.length := by omega
    rw [den_yf]
    unfold Builtin.«proto.yield_from»
    try dsimp only
    refine seg_bind (wpAny_pure ?_)
    try dsimp only
    refine seg_bind (wpAny_attempt (wpAny_holding ?_))
    rw [if_neg Bool.false_ne_true, if_pos (show (Value.none == Value.none) = true from rfl)]
    refine wpAny_bind (wpAny_rule (wpAny_bind ?_))
    refine q.done _ s _ _ ho hst fun e h' tk hS hk => ?_
    obtain ⟨a, o, vs, rfl, hoa, hcls, hdat, h5⟩ := hS
    try dsimp only
    refine seg_bind (wpAny_endsTurn hoa hcls ?_)
    try dsimp only
    rw [if_pos rfl]
    first
      | refine seg_bind (wpAny_rule ?_)
      | (rw [if_neg Bool.false_ne_true]; refine seg_bind (wpAny_rule ?_))
      | (rw [if_neg Bool.false_ne_true]; refine seg_bind (wpAny_pure ?_); refine seg_bind (wpAny_rule ?_))
    refine seg_bind (wpAny_field hoa hdat h5 ?_)
    exact hend n s₀ _ hn (turned hI hk)
  | succ r ih =>
    intro j n s₀ s hj hn hI hst
    have hjl : j < xs.length := by omega
    obtain ⟨x, hx⟩ : ∃ x, xs[j]? = some x := ⟨xs[j], List.getElem?_eq_getElem hjl⟩
    obtain ⟨n, rfl⟩ : ∃ m, n = m + 1 := ⟨n - 1, by omega⟩
    rw [den_yf]
    unfold Builtin.«proto.yield_from»
    try dsimp only
    refine seg_bind (wpAny_pure ?_)
    try dsimp only
    refine seg_bind (wpAny_attempt (wpAny_holding ?_))
    rw [if_neg Bool.false_ne_true, if_pos (show (Value.none == Value.none) = true from rfl)]
    refine wpAny_bind (wpAny_rule (wpAny_bind ?_))
    refine q.item _ j x s _ _ ho hx hst fun v h' tk rv hst' hk => ?_
    have hI' := turned (tk := tk) hI hk
    obtain ⟨oi, hoi, hoc⟩ := hT (j + 1) h' hst'
    refine wpAny_pure ?_
    try dsimp only
    refine seg_bind (wpAny_typeOf (T := T) ⟨oi, hoi, hoc⟩ ?_)
    try dsimp only
    first
      | (refine seg_bind (wpAny_of_eq hcl ?_); refine seg_bind (wpAny_pure ?_))
      | refine seg_bind (wpAny_bind (wpAny_of_eq hcl (wpAny_pure ?_)))
      | refine seg_bind (wpAny_of_eq hcl ?_)
    try dsimp only
    refine seg_bind (wpAny_sleptOver hoi hoc hng ?_)
    refine seg_yield hsp rfl hgd ?_
    refine ⟨j, x, ip, σ, H, by omega, rv, hI', hF j x hx, fun s'' z => ?_⟩
    have hI2 := hI'.woken fa hip z
    have hst2 : St (j + 1) s''.heap := q.frame (j + 1) h' s''.heap hst' fun b o hb e => z.keep b o (fun hm => by
      rcases hb with y | y
      · exact hO (y ▸ hm)
      · exact y (hI'.off hm).1) e
    obtain ⟨oj, hoj, hojc⟩ := hT (j + 1) s''.heap hst2
    show Seg _ _ _ _ n s'' _ (Builtin.Generator.sleptOver (.ref it) false >>= fun _ => _) fs s''
    refine seg_bind (wpAny_sleptOver hoj hojc hng ?_)
    try dsimp only
    refine seg_bind (wpAny_pure ?_)
    exact seg_again (plainId_quiet plain_yf _) (ih (j + 1) n s'' s'' (by omega) (by omega) hI2 hst2)
end
end Gg
/-! Rl30: a generator def of two statements and «yield from», by its body -/
namespace Gg
open PySem PySem.Spec PyProof.Rows L2 GenW
abbrev NoX : XK := fun _ _ _ => False
/-- what the consumer's things were, and that they are not the run's -/
def Put (O : List Addr) (h0 : Heap) (H : Hp) (h : Heap) : Prop := ∀ b ∈ O, H b = none ∧ ∀ o, h0.get? b = some o → h.get? b = some o
def Yo (P : Program) (w : World) (outer : List Env) (H : Hp) (s : Shared) (O : List Addr) (a : Addr) (g : Nat) (F : Nat → V → Hp → Prop) : Protocol := fun n s₀ v s1 kap =>
  s1.os = s.os ∧ AllBare s1.gens ∧ s1.heap.NoLimit ∧ s1.heap.IsGen a g ∧
  (∃ i x H', n + 1 + i = sizeLine ∧ RelV x v ∧ Un (frs outer) [] H H' s.heap s1.heap ∧ HOk P w H' s1.heap ∧ F i x H' ∧ Put O s₀.heap H' s1.heap) ∧ ∀ s', Nap O s1 s' → kap (.send .none) s'
def Fo (P : Program) (w : World) (outer : List Env) (H : Hp) (s : Shared) (O : List Addr) (Q : Nat → Hp → Prop) (n : Nat) (s₀ s1 : Shared) : Prop := ∃ i H', n + i = sizeLine ∧ s1.os = s.os ∧ AllBare s1.gens ∧ Un (frs outer) [] H H' s.heap s1.heap ∧ HOk P w H' s1.heap ∧ Put O s₀.heap H' s1.heap ∧ Q i H'
def Eo (P : Program) (w : World) (outer : List Env) (H : Hp) (s : Shared) (O : List Addr) (Q : Nat → Hp → Prop) : GenEnd := fun n s₀ r s1 =>
  ((r = .ok (.ret .none) ∨ r = .ok .next) ∧ Fo P w outer H s O Q n s₀ s1) ∨ ∃ e, r = .error e ∧ (fun (_ : Value) (_ : Shared) => False) e s1
/-- a generator that has not begun -/
def Made (P : Program) (w : World) (k : Nat) (outer : List Env) (H : Hp) (s : Shared) (F : Nat → V → Hp → Prop) (Q : Nat → Hp → Prop) (u : Value) (s' : Shared) : Prop :=
  ∃ (a : Addr) (g : Nat) (c : Code), u = .ref a ∧ s.heap.objs.size ≤ a ∧ a < s'.heap.objs.size ∧ s'.heap.IsGen a g ∧ s'.gens[g]? = some (.fresh c) ∧ s'.os = s.os ∧ AllBare s'.gens ∧ s'.heap.NoLimit ∧ (∀ b o, s.heap.get? b = some o → s'.heap.get? b = some o) ∧
    ∀ (A : Around) (O : List Addr) (s2 : Shared), Room k A → A.frames = some outer → (∀ b ∈ O, s'.heap.objs.size ≤ b ∧ ∃ o, s2.heap.get? b = some o ∧ ∀ x, o.data ≠ .cell x) → (∀ b o, s'.heap.get? b = some o → s2.heap.get? b = some o) → s2.os = s.os → AllBare s2.gens →
      Seg (model P w) A (Eo P w outer H s O Q) (Yo P w outer H s O a g F) sizeLine s2 c ((model P w).den c) [] s2
abbrev SpF := List V → Hp → (Nat → V → Hp → Prop) → (Nat → Hp → Prop) → Prop
structure Gf (P : Program) (w : World) (K : PySem.W.Frag) (mg : Str → Option Value) (base : Heap) (k : Nat) (f : Addr) (fd : FuncData) (ps : List Str) (sp : SpF) : Prop where
  len : ∀ vs H F Q, sp vs H F Q → vs.length = ps.length
  run : ∀ (A : Around) (outer : List Env) (s : Shared) (H : Hp) (args : Args) (us : List Value) (vs : List V) (F : Nat → V → Hp → Prop) (Q : Nat → Hp → Prop), Room k A → Env0 P w K mg base A outer s H → BindsTo s fd args (ps.zip us) → Vals vs us → sp vs H F Q →
    codeAny (model P w) A (.call (.ref f) args) (fun r s' => match r with | .ok (.ret u) => Made P w k outer H s F Q u s' | _ => False) s
/-- what the body is to do -/
def Body (X : Cx) (st1 st2 : Stmt) (e : Expr) (σ : L2.St) (H : Hp) (F : Nat → V → Hp → Prop) (Q : Nat → Hp → Prop) : Prop := ∃ (t1 t2 : TS) (ty : TYf), PS X st1 t1 ∧ PS X st2 t2 ∧ YfE X e ty ∧
  t1 { nx := fun σ1 H1 => t2 { nx := fun σ2 H2 => ty σ2 H2 fun xs H3 => xs.length ≤ sizeLine ∧ (∀ j x, xs[j]? = some x → F j x H3) ∧ Q xs.length H3, rt := fun _ _ => False, bk := fun _ _ => False, ct := fun _ _ => False } σ1 H1, rt := fun _ _ => False, bk := fun _ _ => False, ct := fun _ _ => False } σ H
theorem seg_body {X : Cx} {st1 st2 : Stmt} {e : Expr} {yp pos : Pos} {σ : L2.St} {H : Hp} {F : Nat → V → Hp → Prop} {Q : Nat → Hp → Prop} {O : List Addr} {A : Around} {R : GenEnd} {c : Code} {K : Flow → Sem PySem.Fin} {J : Value → Sem PySem.Fin} {s s₀ : Shared}
    (fa : Far X O) (hov : A.over c [] = X.A) (hh : X.A.handled = none) (hi : interactive X.env = false) (hb : Body X st1 st2 e σ H F Q) (hr : Run X O s₀.heap [] σ H s)
    (hK : ∀ n s₀ s σ' H', n ≤ sizeLine → Run X O s₀.heap [] σ' H' s → Q (sizeLine - n) H' → Seg (model X.prog X.w) A R (Yp X O F) n s₀ c (K .next) [] s) (hJ : ∀ n s₀ v s, X.xe v s → Seg (model X.prog X.w) A R (Yp X O F) n s₀ c (J v) [] s) :
    Seg (model X.prog X.w) A R (Yp X O F) sizeLine s₀ c ((execs [st1, st2, .Expr (.YieldFrom e yp) pos] X.env).wrap K J id id) [] s := by
  obtain ⟨t1, t2, ty, p1, p2, py, h⟩ := hb
  refine seg_execs_cons (seg_wrap ?_)
  rw [hov]
  refine wpAny_mono (p1.run _ s σ H _ hr.2 h) (fun f s1 q1 => ?_) fun x s' hx => hJ _ s₀ x s' hx
  cases f with
  | brk => obtain ⟨_, _, _, z⟩ := q1; exact z.elim
  | cont => obtain ⟨_, _, _, z⟩ := q1; exact z.elim
  | ret u => obtain ⟨_, _, _, _, _, z⟩ := q1; exact z.elim
  | next =>
  obtain ⟨σ1, H1, I1, h1⟩ := q1
  refine seg_execs_cons (seg_wrap ?_)
  rw [hov]
  refine wpAny_mono (p2.run _ s1 σ1 H1 _ I1 h1) (fun f s2 q2 => ?_) fun x s' hx => hJ _ s₀ x s' hx
  cases f with
  | brk => obtain ⟨_, _, _, z⟩ := q2; exact z.elim
  | cont => obtain ⟨_, _, _, z⟩ := q2; exact z.elim
  | ret u => obtain ⟨_, _, _, _, _, z⟩ := q2; exact z.elim
  | next =>
  obtain ⟨σ2, H2, I2, h2⟩ := q2
  refine seg_execs_cons ?_
  rw [exec_Expr X.env _ pos hi rfl]
  show Seg _ _ _ _ sizeLine s₀ c (.at pos fun _ => ((eval e X.env >>= fun v => (standAt yp >>= fun _ => yieldFrom X.env v)) >>= fun x => dropValue (.YieldFrom e yp) pos x).wrap _ J id id) [] s2
  refine seg_at ?_
  refine segw_bind2 ?_
  rw [hov]
  refine wpAny_mono (py.run _ s2 σ2 H2 _ I2 h2) (fun v s3 hv => ?_) fun x s' hx => hJ _ s₀ x s' hx
  obtain ⟨T, hT, hne, hit⟩ := hv
  have hne' : ¬ ((Value.type T == Value.type "coroutine") = true) := by rw [hne]; exact Bool.false_ne_true
  refine seg_at ?_
  show Seg _ _ _ _ sizeLine s₀ c ((yieldFrom X.env v).wrap (fun b => (dropValue (.YieldFrom e yp) pos b).wrap _ J id id) J id id) [] s3
  unfold yieldFrom
  refine seg_bind_wrap (wpAny_typeOf hT ?_)
  rw [if_neg hne']
  refine seg_bind_wrap (wpAny_holding ?_)
  rw [hov]
  refine wpAny_mono hit (fun u s4 hu => ?_) fun x s' hx => hJ _ s₀ x s' hx
  obtain ⟨it, H', xs, St, rfl, I3, q1, q2, q3, q4, q5, q6, q7, hle, hF, hq⟩ := hu
  refine seg_call fun p => ?_
  have hO : it ∉ O := fun z => by
    obtain ⟨o, eo⟩ := hr.1 it z
    exact q5 (it, o) (List.mem_append_right _ (List.mem_append_left _ (mem_pinsAt z eo))) rfl
  refine seg_from (xs := xs) fa (fun p hp => by simp at hp) (fun p hp => (List.mem_append.mp hp).elim (fun z => q5 p (List.mem_append_left _ z)) fun z => by simp at z) q1 q2 q3 hO q4 q7 ?_ ?_ ?_ hle hF
    (fun n' s₀' s' hn' hG => ?_) xs.length 0 sizeLine s₀ s4 (Nat.zero_add _) rfl ⟨hr.1, I3⟩ q6
  · show (A.over c []).handled = none
    rw [hov]; exact hh
  · rfl
  · rfl
  · refine seg_leaf (.ok (.ret .none)) (hK n' s₀' s' σ2 H' (by omega) hG ?_)
    have : sizeLine - n' = xs.length := by omega
    rw [this]; exact hq
/-- a generator def of this form, by its body -/
theorem gf_of {P : Program} {w : World} {K : PySem.W.Frag} {mg : Str → Option Value} {base : Heap} {k : Nat} {f : Addr} {name qual : Str} {params : Arguments} {st1 st2 : Stmt} {ye : Expr} {yp ypos : Pos} {scope : Scope} {dV kV doc pm cdv ct oc : Value} {an od : Option Addr}
    {osl : Array (Option Value)} {N ps : List Str} {sp : SpF} (lk : K.lookup f = some ⟨oc, od, .func (PySem.W.fnOf name qual params [st1, st2, .Expr (.YieldFrom ye yp) ypos] scope dV kV doc pm an cdv ct), osl⟩) (hcd : PySem.W.codeIn K cdv qual = true) (S : GScope N ps scope)
    (len : ∀ vs H F Q, sp vs H F Q → vs.length = ps.length)
    (hbody : ∀ (A : Around) (outer : List Env) (s : Shared) (H : Hp) (vs : List V) (F : Nat → V → Hp → Prop) (Q : Nat → Hp → Prop) (pn : List (Addr × Obj)), Room k (A.deeper (envOfC qual scope s.heap.objs.size f cdv)) → sp vs H F Q →
      Body (gcxOf P w K mg base N qual scope f cdv A outer s H NoX pn) st1 st2 ye (start N vs) H F Q)
    (hint : ∀ (A : Around) (outer : List Env) (s : Shared) (H : Hp) (pn : List (Addr × Obj)), interactive (gcxOf P w K mg base N qual scope f cdv A outer s H NoX pn).env = false := by intros; rfl) :
    Gf P w K mg base (k + 1) f (PySem.W.fnOf name qual params [st1, st2, .Expr (.YieldFrom ye yp) ypos] scope dV kV doc pm an cdv ct) ps sp := by
  refine ⟨len, fun A outer s H args us vs F Q hr e0 hb r hsp => ?_⟩
  have KX : K.In s.heap := e0.mod.kin.keeps fun b o e => (e0.bs b o e).1
  have lim : s.heap.NoLimit := e0.mod.nolimit.keeps fun b o e => (e0.bs b o e).1
  have lenv := len _ _ _ _ hsp
  have hkind : ∀ y ∈ ps.zip us, scope.names.lookup y.1 = some .local ∨ (scope.names.lookup y.1 = some .cell ∧ ((cellsFrom (s.heap.objs.size + 1) scope.names []).lookup y.1).isSome = true) := fun y hy =>
    (S.par y.1 (List.of_mem_zip (show (y.1, y.2) ∈ ps.zip us from hy)).1).imp id fun q => ⟨q, PySem.W.cellsFrom_some _ _ _ (.inl q)⟩
  refine codeAny_call_generator hr.depth (KX _ _ lk) rfl S.co S.gen rfl (PySem.W.codeRec_of KX hcd) (hb _ _ _ _ ?_)
  refine wpAny_newFunctionEnv_cells S.kind hkind fun env he s1 x => ?_
  subst he
  have lim1 : s1.heap.NoLimit := lim.keeps x.toInCall.keep
  refine ⟨lim1, ?_⟩
  obtain ⟨h1, tk, es1, hk1⟩ := x.done
  have os1 : s1.os = s.os := by rw [es1]
  have gen1 : s1.gens = s.gens := by rw [es1]
  have lt1 : s.heap.objs.size < s1.heap.objs.size := x.toInCall.ns.lt
  have go_main : ∀ (go : Obj) (nm qn : Value) (tk2 : Nat), go.cls = .type "generator" → go.data = .fields #[.int s1.gens.size 0, nm, qn] → go.slots = #[] → (∀ h : Heap, (h.push go).get? h.objs.size = some go) →
      Made P w (k + 1) outer H s F Q (.ref s1.heap.objs.size) { s1 with gens := s1.gens.push (.fresh (.func [st1, st2, .Expr (.YieldFrom ye yp) ypos] (envOfC qual scope s.heap.objs.size f cdv))), toks := tk2, heap := s1.heap.push go } := by
    intro go nm qn tk2 hgc hgd0 hgs hgp
    have isg : ∀ h : Heap, h.get? s1.heap.objs.size = some go → h.IsGen s1.heap.objs.size s1.gens.size := fun h e => ⟨go, nm, qn, e, hgc, hgd0, hgs⟩
    have pushed := hgp s1.heap
    refine ⟨_, s1.gens.size, _, rfl, Nat.le_of_lt lt1, ?_, isg _ pushed, Array.getElem?_push_size .., os1, ?_, lim1.keeps fun b o e => Heap.get?_push_of_some _ e, fun b o e => Heap.get?_push_of_some _ (x.toInCall.keep b o e), ?_⟩
    · show _ < (s1.heap.push _).objs.size
      rw [Heap.size_push]; exact Nat.lt_succ_self _
    · exact AllBare.push (by rw [gen1]; exact e0.bare) rfl
    intro Aw O s2 hrw hfr hO hk2 hos hba
    have e0w : Env0 P w K mg base Aw outer s H := ⟨hfr, e0.mod, e0.bs, e0.bsz, e0.funs, e0.frf, e0.hok, e0.bare⟩
    have bd := hbody Aw outer s H vs F Q [(s1.heap.objs.size, go)] (hrw.deeper _) hsp
    have I1 : Inv (gcxOf P w K mg base N qual scope f cdv Aw outer s H NoX []) [] (start N vs) H s1 := inv_startG S hrw.hd e0w lenv r x
    have kp2 : ∀ b o, s1.heap.get? b = some o → s2.heap.get? b = some o := fun b o e => hk2 b o (Heap.get?_push_of_some _ e)
    have I2 : Inv (gcxOf P w K mg base N qual scope f cdv Aw outer s H NoX []) [] (start N vs) H s2 :=
      I1.call' (ch := []) (hos.trans os1.symm) (Un.kept kp2) (I1.hok.kept kp2) hba fun b z => by simp at z
    have young : ∀ b, s1.heap.objs.size ≤ b → H b = none ∧ b ≠ s.heap.objs.size ∧ b ∉ frs outer ∧ s.heap.objs.size ≤ b ∧ ∀ y c, (cellsFrom (s.heap.objs.size + 1) scope.names []).lookup y = some c → c ≠ b := fun b hb => by
      refine ⟨I1.hok.fresh hb, Nat.ne_of_gt (Nat.lt_of_lt_of_le lt1 hb), I1.nofs hb, Nat.le_trans (Nat.le_of_lt lt1) hb, fun y c e z => ?_⟩
      obtain ⟨v, ob, ho, _⟩ := I1.cell y c e
      have q := Heap.lt_size ho
      rw [z] at q
      exact absurd (Nat.lt_of_lt_of_le q hb) (Nat.lt_irrefl _)
    have hO1 : ∀ b ∈ O, s1.heap.objs.size < b := fun b hb => by
      have q : (s1.heap.push go).objs.size ≤ b := (hO b hb).1
      rw [Heap.size_push] at q
      exact q
    have gcell : ∀ v, go.data ≠ .cell v := fun v q => by rw [hgd0] at q; cases q
    have ag : s2.heap.get? s1.heap.objs.size = some go := hk2 _ go pushed
    have hrun : Run (gcxOf P w K mg base N qual scope f cdv Aw outer s H NoX [(s1.heap.objs.size, go)]) O s2.heap [] (start N vs) H s2 := by
      refine ⟨fun b hb => let ⟨o, e, _⟩ := (hO b hb).2; ⟨o, e⟩, Inv.pinnedG I2 fun p hp => ?_⟩
      rcases List.mem_append.mp hp with z | z
      · rw [List.mem_singleton.mp z]
        obtain ⟨y1, y2, y3, _, _⟩ := young _ (Nat.le_refl _)
        exact ⟨ag, y1, y2, y3, gcell⟩
      · rcases List.mem_append.mp z with z | z
        · obtain ⟨hb, e⟩ := of_pinsAt z
          obtain ⟨y1, y2, y3, _, _⟩ := young p.1 (Nat.le_of_lt (hO1 _ hb))
          obtain ⟨o, e2, nc⟩ := (hO _ hb).2
          rw [e] at e2
          cases e2
          exact ⟨e, y1, y2, y3, nc⟩
        · simp at z
    have far : Far (gcxOf P w K mg base N qual scope f cdv Aw outer s H NoX [(s1.heap.objs.size, go)]) O := fun b hb => by
      obtain ⟨_, y2, _, y4, y5⟩ := young b (Nat.le_of_lt (hO1 b hb))
      refine ⟨y4, y2, y5, fun p hp => ?_⟩
      rw [List.mem_singleton.mp hp]
      exact Nat.ne_of_lt (hO1 b hb)
    have nox : ∀ e s', (gcxOf P w K mg base N qual scope f cdv Aw outer s H NoX [(s1.heap.objs.size, go)]).xe e s' → ∀ n s₀, Seg (model P w) Aw (Ep (gcxOf P w K mg base N qual scope f cdv Aw outer s H NoX [(s1.heap.objs.size, go)]) O Q fun _ _ => False) (Yp (gcxOf P w K mg base N qual scope f cdv Aw outer s H NoX [(s1.heap.objs.size, go)]) O F) n s₀
        (.func [st1, st2, .Expr (.YieldFrom ye yp) ypos] (envOfC qual scope s.heap.objs.size f cdv)) ((leaving (envOfC qual scope s.heap.objs.size f cdv) e).wrap (fun _ => .raise e) .raise id id) [] s' := fun e s' hx n s₀ => by
      refine seg_wrap ?_
      rw [over_func]
      refine wpAny_mono (show wpAny (model P w) (Aw.deeper (envOfC qual scope s.heap.objs.size f cdv)) (leaving (envOfC qual scope s.heap.objs.size f cdv) e) (fun _ s'' => CX P w outer H s NoX e s'' ∧ ∀ p ∈ [(s1.heap.objs.size, go)], s''.heap.get? p.1 = some p.2) (fun _ _ => False) s' from hx) (fun _ s'' q => ?_) fun _ s'' q => q.elim
      obtain ⟨⟨_, _, _, _, _, _, _, _, _, _, _, _, z⟩, _⟩ := q
      exact z.elim
    refine seg_func ?_
    refine seg_imp (R := Ep (gcxOf P w K mg base N qual scope f cdv Aw outer s H NoX [(s1.heap.objs.size, go)]) O Q fun _ _ => False)
      (Y := Yp (gcxOf P w K mg base N qual scope f cdv Aw outer s H NoX [(s1.heap.objs.size, go)]) O F) (fun n s₀ r s1' hR => ?_) (fun n s₀ v s1' kap kap' hkk hY => ?_) sizeLine ?_
    · cases r with
      | error e => exact False.elim hR
      | ok fl =>
        cases fl with
        | next => exact False.elim hR
        | brk => exact False.elim hR
        | cont => exact False.elim hR
        | ret u =>
          obtain ⟨eu, i, ip, σ', H', hn, hI, hQ⟩ := hR
          subst eu
          have J := hI.2
          exact .inl ⟨.inl rfl, i, H', hn, J.os, J.bare, J.base, J.hok, fun b hb => ⟨(hI.off hb).1, (hI.off hb).2.2.2⟩, hQ⟩
    · obtain ⟨i, xx, ip, σ', H', hn, h2, hI, hF, h3⟩ := hY
      have J := hI.2
      exact ⟨J.os, J.bare, J.nolimit, isg _ (J.pin (s1.heap.objs.size, go) (List.mem_append_left _ (List.mem_singleton.mpr rfl))).1, ⟨i, xx, H', hn, h2, J.base, J.hok, hF, fun b hb => ⟨(hI.off hb).1, (hI.off hb).2.2.2⟩⟩, fun s' z => hkk _ _ (h3 s' z)⟩
    · refine seg_body (X := gcxOf P w K mg base N qual scope f cdv Aw outer s H NoX [(s1.heap.objs.size, go)]) (σ := start N vs) (H := H) (F := F) (Q := Q) far over_func hrw.hd (hint _ _ _ _ _) bd hrun
        (fun n s₀ s' σ' H' hn hI hq => seg_end (.ok (.ret .none)) ⟨rfl, sizeLine - n, [], σ', H', by omega, hI, hq⟩) (fun n s₀ v s' hx => nox v s' hx n s₀)
  exact go_main _ _ _ _ rfl rfl rfl fun h => Heap.get?_push_size _ rfl
end Gg
/-! Rl31: [x.f for x in o.m() if x.g == "word"], where o.m() is a generator -/
namespace Gg
open PySem PySem.Spec PyProof.Rows L2 GenW
abbrev TGm := L2.St → Hp → (Nat → V → Hp → Prop) → (Nat → Hp → Prop) → Prop
/-- an expression whose value is a generator that has not begun -/
structure Pm (X : Cx) (k : Nat) (e : Expr) (tg : TGm) : Prop where
  run : ∀ (pins : List (Addr × Obj)) (s : Shared) (σ : L2.St) (H : Hp) (F : Nat → V → Hp → Prop) (Q : Nat → Hp → Prop), Inv X pins σ H s → tg σ H F Q → wpAny (model X.prog X.w) X.A (eval e X.env)
    (fun u s' => ∃ H1 sc, Inv X pins σ H1 sc ∧ Made X.prog X.w k X.stack H1 sc F Q u s') X.xe s
section
variable {X : Cx} {k : Nat} {f C : Addr} {fd : FuncData} {ps : List Str} {sp : SpF} {m : Str} {pos' apos : Pos} {o : Expr} {ta : TE}
def tMg (C : Addr) (m : Str) (sp : SpF) (ta : TE) : TGm := fun σ H F Q => ta σ H fun x H1 => ∃ a dx fs, x = .ref a ∧ H1 a = some (.ins C dx fs) ∧ fs.lookup m = none ∧ sp [x] H1 F Q
/-- o.m() of such a method -/
theorem pm_meth {pl : Sem Bool} (he : PE X o ta) (c : Cls X.K C) (hm : Meth X.K C m f) (F : Gf X.prog X.w X.K X.mg X.base k f fd ps sp) (hr : Room k X.A) (hb : Binds X.K fd ps [])
    (ht : eval (.Call (.Attribute o m apos) [] [] pos') X.env = (do
      let ov ← eval o X.env
      standAt apos.atName
      let (f, first) ← holding [ov] (getMethod ov m pl)
      callWith pos' f first (backTo pos' (starEach [] X.env)) (backToKw pos' (keywordEach [] X.env))) := by rfl) :
    Pm X k (.Call (.Attribute o m apos) [] [] pos') (tMg C m sp ta) := by
  refine ⟨fun pins s σ H Fy Q I h => ?_⟩
  refine PySem.W.methodCall_KW (pl := pl) (thn (he.run pins s σ H _ I h) fun u s1 ⟨x, H1, I1, rx, a, dx, fs, ex, ea, l, q⟩ => ?_) ht
  subst ex
  obtain rfl : u = Value.ref a := rx
  refine getmeth_ok I1 ea c hm l (PySem.W.callWith_K0 (first := [.ref a]) I1.kIn hm.kp ?_)
  have hl : ps.length = 1 := (F.len _ _ _ _ q).symm
  refine wpAny_call (codeAny_mono (F.run X.A X.stack s1 H1 ⟨[.ref a], []⟩ [.ref a] [.ref a] Fy Q hr I1.env0 (by have z := hb s1 [.ref a] I1.kIn hl.symm; exact z) (.cons rfl .nil) q) fun r s' hq => ?_)
  cases r with
  | error e => exact False.elim hq
  | ok fl =>
    cases fl with
    | ret u => exact ⟨H1, s1, I1, hq⟩
    | next => exact False.elim hq
    | brk => exact False.elim hq
    | cont => exact False.elim hq
end
/-! ### a field of an own object, by its name in a frame of one's own -/
section
variable {P : Program} {w : World} {K : PySem.W.Frag} {A : Around} {E : Value → Shared → Prop} {s : Shared} {H : Hp} {env : Env} {mm : Str → Option Value} {t f : Str} {a C dx : Addr} {fs : List (Str × V)} {v : V} {tp pos : Pos}
theorem ev_fld {Q : Value → Shared → Prop} (hk : env.scope.kind = .function) (hl : env.kindOf t = some .local) (hn : s.heap.Ns env.locals mm) (hv : mm t = some (.ref a)) (hok : HOk P w H s.heap) (kin : K.In s.heap) (e : H a = some (.ins C dx fs)) (c : Cls K C) (n : NoAttr K C f) (l : fs.lookup f = some v)
    (h : ∀ u, RelV v u → Q u { s with toks := s.toks + 1 }) (hd : (t == ("__debug__" : Str)) = false) (hb : attributeBase (.Name t tp) f env (eval (.Name t tp) env) = eval (.Name t tp) env) : wpAny (model P w) A (eval (.Attribute (.Name t tp) f pos) env) Q E s := by
  refine attr_of hb (wpAny_Name (wpAny_loadName_local hk hl hn hv ?_) hd)
  obtain ⟨mA, O, r, _, _, _⟩ := ins_get hok e
  obtain ⟨u, hu, ru⟩ := RelO.some_of (v := v) (o := mA f) (by rw [← l]; exact r f)
  exact get_map kin O (c.get f) c.hd n hu (handed_of ru) (h u ru)
end
/-- what has been taken -/
def flt (yes : Nat → Bool) (tx : Nat → V) (n : Nat) : List V := ((List.range n).filter yes).map tx
theorem flt_one {yes : Nat → Bool} {tx : Nat → V} {n : Nat} : flt yes tx (n + 1) = if yes n = true then flt yes tx n ++ [tx n] else flt yes tx n := by
  unfold flt
  rw [List.range_succ, List.filter_append, List.map_append]
  by_cases h : yes n = true
  · rw [if_pos h, List.filter_cons_of_pos h]; rfl
  · rw [if_neg h, List.filter_cons_of_neg h]; simp
theorem flt_len {yes : Nat → Bool} {tx : Nat → V} {n : Nat} : (flt yes tx n).length ≤ n := by
  unfold flt
  rw [List.length_map]
  exact Nat.le_trans (List.length_filter_le _ _) (by simp)
/-- the i-th thing that comes: an object whose field g is the word or not, whose field f is tx i -/
def Got (K : PySem.W.Frag) (f g z : Str) (yes : Nat → Bool) (tx : Nat → V) (i : Nat) (x : V) (H : Hp) : Prop :=
  ∃ a C dx fs kd, x = .ref a ∧ H a = some (.ins C dx fs) ∧ Cls K C ∧ NoAttr K C f ∧ NoAttr K C g ∧ fs.lookup g = some (.str kd) ∧ fs.lookup f = some (tx i) ∧ (kd.cps.toList == z.cps.toList) = yes i
def tGc (K : PySem.W.Frag) (f g z : Str) (tg : TGm) : TE := fun σ H R => ∃ yes tx, tg σ H (Got K f g z yes tx) fun n H' => ∀ D, H' D = none → R (.ref D) (upd H' D (.lst (flt yes tx n)))
end Gg
namespace Gg
open PySem PySem.Spec PyProof.Rows L2 GenW
theorem hok_off {P : Program} {w : World} {H : Hp} {h h' : Heap} {c : Addr} (k : HOk P w H h) (n : H c = none) (q : ∀ b o, b ≠ c → h.get? b = some o → h'.get? b = some o) : HOk P w H h' := fun b u e => by
  refine (k b u e).stay (fun d v hd y => q d v (fun z => ?_) y) (fun _ y => y) fun _ _ y => y
  subst z
  rcases hd with y | y
  · rw [← y, n] at e; cases e
  · rw [n] at y; cases y
section
variable {X : Cx} {k : Nat} {t f g z : Str} {iter : Expr} {tp0 tp1 tp2 p1 p2 cpos zp pos : Pos} {zj : Nat} {scope : Scope} {tg : TGm} {σ : L2.St} {H : Hp} {pins : List (Addr × Obj)} {s : Shared} {R : VK}
/-- where the loop stands -/
structure Lp (X : Cx) (outer : List Env) (H1 : Hp) (sc : Shared) (a : Addr) (gn : Nat) (D C : Addr) (F : Nat → V → Hp → Prop) (Q : Nat → Hp → Prop) (yes : Nat → Bool) (tx : Nat → V) (n : Nat) (s : Shared) : Prop where
  ig : s.heap.IsGen a gn
  nl : s.heap.NoLimit
  os : s.os = sc.os
  bare : AllBare s.gens
  go : ∃ gs, s.gens[gn]? = some gs ∧ gs.Goes (model X.prog X.w) X.A.in1 (Eo X.prog X.w outer H1 sc [D, C] Q) (Yo X.prog X.w outer H1 sc [D, C] a gn F) n (.send .none) (s.setGen gn .running)
  acc : ∃ (i : Nat) (xs : Array Value) (c : Nat), n + i = sizeLine ∧ s.heap.get? D = some (lstObj xs c) ∧ Vals (flt yes tx i) xs.toList
  ns : ∃ m, s.heap.Ns C m
theorem loop_gc {ce : Env} {a D C : Addr} {gn : Nat} {H1 : Hp} {sc : Shared} {yes : Nat → Bool} {tx : Nat → V} {Q : Nat → Hp → Prop} {Rr : Result → Shared → Prop}
    (I1 : Inv X pins σ H1 sc) (hD : sc.heap.objs.size ≤ D) (hC : D < C) (haD : a ≠ D) (haC : a ≠ C) (hh : X.A.handled = none) (hdp : X.A.depth < recursionLimit)
    (hcl : ce.locals = C) (hck : ce.scope.kind = .function) (hct : ce.kindOf t = some .local) (hd : (t == ("__debug__" : Str)) = false)
    (hbf : attributeBase (.Name t tp1) f ce (eval (.Name t tp1) ce) = eval (.Name t tp1) ce) (hbg : attributeBase (.Name t tp2) g ce (eval (.Name t tp2) ce) = eval (.Name t tp2) ce) (hm : behindInMarks .Eq (.Constant (.str z) zj zp) = false)
    (hend : ∀ i s1 H', i ≤ sizeLine → s1.os = sc.os → AllBare s1.gens → Un (frs X.stack) [] H1 H' sc.heap s1.heap → HOk X.prog X.w H' s1.heap → H' D = none → H' C = none → (∃ m, s1.heap.Ns C m) → (∃ xs c, s1.heap.get? D = some (lstObj xs c) ∧ Vals (flt yes tx i) xs.toList) → Q i H' → Rr (.ok .next) s1) :
    ∀ n s, Lp X X.stack H1 sc a gn D C (Got X.K f g z yes tx) Q yes tx n s →
    codeAny (model X.prog X.w) X.A (.compLoop (.ListComp (.Attribute (.Name t tp1) f p1) [⟨.Name t tp0, iter, [.Compare (.Attribute (.Name t tp2) g p2) [.Eq] [.Constant (.str z) zj zp] cpos], 0⟩] scope pos) 0 (.ref a) (.ref D) ce) Rr s := by
  intro n s L
  have cst : cStatics < sc.heap.objs.size := by
    have q := I1.nolimit
    obtain ⟨_, hn, _⟩ := q
    exact hn.lt
  refine compLoop_any (fun n s => Lp X X.stack H1 sc a gn D C (Got X.K f g z yes tx) Q yes tx n s) ?_ n L
  clear L s n
  intro n s L
  obtain ⟨ig, nl, os, bare, ⟨gs, hgs, hgo⟩, ⟨i, xs, c, hi, hxs, hv⟩, m, hns⟩ := L
  have hgl : gn < s.gens.size := (Array.getElem?_eq_some_iff.mp hgs).1
  obtain ⟨oC, es0, ep0, hoC, rC⟩ := id hns
  refine wpAny_gsz (n := gn + 1) hgl (next_genG (A := X.A) (F := Fo X.prog X.w X.stack H1 sc [D, C] Q) (Er := fun _ _ => False) hh nl hdp ig hgs hgo (fun v s1 gs' hbare hy hsz => ?_) (fun s1 hp h' hk hsz => ?_) fun e s1 he => he.elim)
  · obtain ⟨os1, hb1, hl1, hg1, ⟨i', x, H', hn, rx, un, hok, hF, hput⟩, hkap⟩ := hy
    obtain ⟨hD0, hD1⟩ := hput D (by simp)
    obtain ⟨hC0, hC1⟩ := hput C (by simp)
    have eD : s1.heap.get? D = some (lstObj xs c) := hD1 _ hxs
    have eC : s1.heap.get? C = some oC := hC1 _ hoC
    have ns1 : s1.heap.Ns C m := hns.at' fun o e => hC1 o e
    have nap0 : ∀ {v : Shared}, v.os = s1.os → AllBare v.gens → (∀ b o, b ∉ [D, C] → s1.heap.get? b = some o → v.heap.get? b = some o) → (∃ xs c, v.heap.get? D = some (lstObj xs c)) → (∃ m, v.heap.Ns C m) → Nap [D, C] s1 v := fun {v} e1 e2 e3 e4 e5 => by
      refine ⟨e1, e2, e3, fun b hb => ?_⟩
      rcases List.mem_cons.mp hb with rfl | hb
      · obtain ⟨xs, c, e⟩ := e4
        exact ⟨_, e, fun _ q => by cases q⟩
      · rw [List.mem_singleton.mp hb]
        obtain ⟨m, o, es, ep, e, hdat, _⟩ := e5
        exact ⟨o, e, fun _ q => by rw [hdat] at q; cases q⟩
    cases n with
    | zero => exact False.elim (hkap s1 (nap0 rfl hb1 (fun _ _ _ e => e) ⟨_, _, eD⟩ ⟨_, ns1⟩))
    | succ j =>
    obtain rfl : i' = i := by omega
    have hsz1 : gn < s1.gens.size := by
      have q : (s1.setGen gn gs').gens.size = s1.gens.size := setGen_size _ _ _
      have hsz' : gn + 1 ≤ (s1.setGen gn gs').gens.size := hsz
      omega
    -- the tests' and the element's world
    have base1 : ∀ b o, X.base.get? b = some o → s1.heap.get? b = some o ∧ b < sc.heap.objs.size := fun b o e => by
      obtain ⟨q1, q2⟩ := I1.bs b o e
      refine ⟨un.keep b o q1 q2 (fun hb => ?_) (by simp), Heap.lt_size q1⟩
      rcases List.mem_cons.mp (I1.stkSub b hb) with zz | zz
      · have h1 := Heap.lt_size e
        have h2 := Nat.le_trans I1.ok.bsz I1.ok.above
        rw [zz] at h1
        exact absurd (Nat.lt_of_lt_of_le h1 h2) (Nat.lt_irrefl _)
      · exact I1.ok.nofr e zz
    obtain ⟨xa, xC, dx, fs, kd, rfl, ha, hcls, naf, nag, lg, lf, hyes⟩ := hF
    obtain rfl : v = Value.ref xa := rx
    show wpAny _ _ (letOwnedTupleGo (.Name t tp0) (.ref a) (.ref xa)) _ _ _
    refine wpAny_pure (wpAny_assign_Name (wpAny_storeName_local (s := s1.setGen gn gs') (m := m) hct (by rw [hcl]; exact ns1) (fun h2 ns2 sb2 => ?_) (by rw [hck]; rfl)))
    rw [hcl] at ns2 sb2
    have hok2 : HOk X.prog X.w H' h2 := hok_off hok hC0 fun b o hb e => (sb2.2 b hb).trans e
    have kin2 : X.K.In h2 := I1.ok.mod.kin.keeps fun b o e => by
      obtain ⟨q1, q2⟩ := base1 b o e
      exact (sb2.2 b (Nat.ne_of_lt (Nat.lt_trans (Nat.lt_of_lt_of_le q2 hD) hC))).trans q1
    have eD2 : h2.get? D = some (lstObj xs c) := (sb2.2 D (Nat.ne_of_lt hC)).trans eD
    -- the turn's end
    have fin : ∀ (h5 : Heap) (tk : Nat) (ys : Array Value) (c' : Nat), (∀ b o, b ∉ [D, C] → s1.heap.get? b = some o → h5.get? b = some o) → h5.get? D = some (lstObj ys c') → (∃ m, h5.Ns C m) → Vals (flt yes tx (i' + 1)) ys.toList →
        ∃ m', m' < j + 1 ∧ Lp X X.stack H1 sc a gn D C (Got X.K f g z yes tx) Q yes tx m' { s1.setGen gn gs' with heap := h5, toks := tk } := fun h5 tk ys c' k5 e5 n5 v5 => by
      refine ⟨j, Nat.lt_succ_self _, ?_, ?_, os1, allBare_setGen hb1 hbare, ⟨gs', setGen_at hsz1, ?_⟩, ⟨i' + 1, ys, c', by omega, e5, v5⟩, n5⟩
      · obtain ⟨o, nm, qn, ho, r⟩ := hg1
        exact ⟨o, nm, qn, k5 a o (by simp [haD, haC]) ho, r⟩
      · obtain ⟨mc, hn', hnn⟩ := hl1
        refine ⟨mc, hn'.at' fun o e => k5 _ o ?_ e, hnn⟩
        have q1 : cStatics ≠ D := Nat.ne_of_lt (Nat.lt_of_lt_of_le cst hD)
        have q2 : cStatics ≠ C := Nat.ne_of_lt (Nat.lt_trans (Nat.lt_of_lt_of_le cst hD) hC)
        simp [q1, q2]
      · exact hkap _ (nap0 rfl (allBare_setGen (s := s1.setGen gn gs') (allBare_setGen hb1 hbare) rfl) k5 ⟨_, _, e5⟩ n5)
    have keep2 : ∀ b o, b ∉ [D, C] → s1.heap.get? b = some o → h2.get? b = some o := fun b o hb e => (sb2.2 b (fun zz => hb (by simp [zz]))).trans e
    refine wpAny_tests_one (wpAny_isTrue_Compare1 (ev_fld (mm := fun x => if x = t then some (.ref xa) else m x) hck hct (by rw [hcl]; exact ns2) (by simp) hok2 kin2 ha hcls nag lg (fun u ru => ?_) hd hbg) hm)
    obtain ⟨ut, rfl⟩ := ru
    refine Calls.Constant_str (PySem.P.eq_str (wpAny_truthy_bool ?_))
    rw [hyes]
    cases hy : yes i' with
    | false =>
      simp only [Bool.false_eq_true, if_false]
      exact fin h2 _ xs c keep2 eD2 ⟨_, ns2⟩ (by rw [flt_one, hy, if_neg Bool.false_ne_true]; exact hv)
    | true =>
      simp only [if_true]
      refine ev_fld (mm := fun x => if x = t then some (.ref xa) else m x) hck hct (by rw [hcl]; exact ns2) (by simp) hok2 kin2 ha hcls naf lf (fun u ru => ?_) hd hbf
      have hlv := hv.length
      have hfl := flt_len (yes := yes) (tx := tx) (n := i')
      refine append_at (hsz := by rw [← Array.length_toList]; omega) eD2 fun h3 sb3 e3 => ?_
      refine fin h3 _ _ _ (fun b o hb e => (sb3.2 b (fun zz => hb (by simp [zz]))).trans (keep2 b o hb e)) e3 ⟨_, ns2.at' fun o e => (sb3.2 C (Nat.ne_of_gt hC)).trans e⟩ ?_
      rw [flt_one, hy, if_pos rfl, Array.toList_push]
      exact hv.append (.cons ru .nil)
  · obtain ⟨i', H', hn, os1, hb1, un, hok, hput, hQ⟩ := hp
    obtain ⟨hD0, hD1⟩ := hput D (by simp)
    obtain ⟨hC0, hC1⟩ := hput C (by simp)
    obtain rfl : i' = i := by omega
    exact hend i' _ H' (by omega) os1 (allBare_setGen hb1 rfl) (un.trans (Un.kept hk)) (hok.kept hk) hD0 hC0 ⟨m, hns.at' fun o e => hk _ _ (hC1 o e)⟩ ⟨xs, c, hk _ _ (hD1 _ hxs), hv⟩ hQ
/-- [x.f for x in o.m() if x.g == "word"] -/
theorem pe_gc (hi : Pm X k iter tg) (hr : Room (k + 3) X.A) (hsc : scope.names = [((".0" : Str), .local), (t, .local)]) (hkd : scope.kind = .function) (hd : (t == ("__debug__" : Str)) = false := by decide)
    (hbf : ∀ ce, attributeBase (.Name t tp1) f ce (eval (.Name t tp1) ce) = eval (.Name t tp1) ce := by intro _; rfl) (hbg : ∀ ce, attributeBase (.Name t tp2) g ce (eval (.Name t tp2) ce) = eval (.Name t tp2) ce := by intro _; rfl)
    (hm : behindInMarks .Eq (.Constant (.str z) zj zp) = false := by with_unfolding_all rfl) (hs : ∀ x, foldedSetIterable iter X.env x = pure x := by intro _; rfl) :
    PE X (.ListComp (.Attribute (.Name t tp1) f p1) [⟨.Name t tp0, iter, [.Compare (.Attribute (.Name t tp2) g p2) [.Eq] [.Constant (.str z) zj zp] cpos], 0⟩] scope pos) (tGc X.K f g z tg) := by
  have hlt : scope.names.lookup t = some .local := by
    rw [hsc, List.lookup_cons]
    split
    · rfl
    · simp
  refine ⟨fun pins s σ H R I h => ?_⟩
  obtain ⟨yes, tx, h⟩ := h
  rw [eval_ListComp]
  refine wpAny_comprehension_free (use := none) rfl hs (closure_ok (fun y hy e => ?_)) hkd (fun y hy e => ?_) (thn (hi.run pins s σ H _ _ I h) fun u s1 ⟨H1, sc, I1, hM⟩ => ?_)
  · rw [hsc] at hy
    rcases List.mem_cons.mp hy with hy | hy
    · rw [hy] at e; cases e
    · rw [List.mem_singleton.mp hy] at e; cases e
  · rw [hsc] at hy
    rcases List.mem_cons.mp hy with hy | hy
    · rw [hy, hsc]; simp
    · rw [List.mem_singleton.mp hy]; exact hlt
  obtain ⟨a, gn, c, rfl, ha1, ha2, hg, hgs, hos, hb, hl, hkp, wake⟩ := hM
  refine wpAny_pyIter_gen hg ?_
  refine wpAny_newObj_type (newEnv_comp ?_) (by show 0 ≤ sizeLine; decide)
  have hpc : ∀ h, pushCells h scope.names = h := fun h => by rw [hsc]; rfl
  have hcc : ∀ n cl, cellsFrom n scope.names (cloFrom X.env.cells scope.names cl) = cl := fun n cl => by rw [hsc]; rfl
  rw [hpc, hcc]
  generalize hDe : s1.heap.objs.size = D
  have sDl : (s1.heap.push { cls := .type "list", data := .seq ([] : List Value).toArray }).objs.size = D + 1 := by rw [Heap.size_push, hDe]
  have hce : ∀ n, ({ newEnv scope (s1.heap.push { cls := .type "list", data := .seq ([] : List Value).toArray }).objs.size X.env.globals [] X.env.qual none .none (some X.env) n with scope := relabel scope X.env } : Env).locals = D + 1 := fun n => sDl
  have hDs : sc.heap.objs.size ≤ D := by rw [← hDe]; exact Nat.le_trans ha1 (Nat.le_of_lt ha2)
  have aD : a < D := by rw [← hDe]; exact ha2
  have kp4 : ∀ b o, s1.heap.get? b = some o → ((s1.heap.push { cls := .type "list", data := .seq ([] : List Value).toArray }).push { cls := .type "dict", data := .dict #[] }).get? b = some o := fun b o e => Heap.get?_push_of_some _ (Heap.get?_push_of_some _ e)
  have eD : ((s1.heap.push { cls := .type "list", data := .seq ([] : List Value).toArray }).push { cls := .type "dict", data := .dict #[] }).get? D = some (lstObj #[] 0) := by
    rw [← hDe]
    exact Heap.get?_push_of_some _ (Heap.get?_push_size _ rfl)
  have nsC : Heap.Ns ((s1.heap.push { cls := .type "list", data := .seq ([] : List Value).toArray }).push { cls := .type "dict", data := .dict #[] }) (D + 1) (fun _ => none) := by
    rw [← sDl]
    exact Heap.Ns.new ..
  show codeAny _ _ (.compStart _ 0 (.ref a) (.ref D) ({ newEnv scope (s1.heap.push { cls := .type "list", data := .seq ([] : List Value).toArray }).objs.size X.env.globals [] X.env.qual none .none (some X.env) _ with scope := relabel scope X.env })) (compPost (model X.prog X.w) X.A X.xe none _ (.ref D) (s1.heap.push { cls := .type "list", data := .seq ([] : List Value).toArray }).objs.size) _
  rw [sDl]
  have loop := loop_gc (X := X) (σ := σ) (pins := pins) (t := t) (f := f) (g := g) (z := z) (iter := iter) (tp0 := tp0) (tp1 := tp1) (tp2 := tp2) (p1 := p1) (p2 := p2) (cpos := cpos) (zp := zp) (pos := pos) (zj := zj) (scope := scope)
    (ce := { newEnv scope (D + 1) X.env.globals [] X.env.qual none .none (some X.env) X.env.builtins with scope := relabel scope X.env }) (a := a) (D := D) (C := D + 1) (gn := gn) (H1 := H1) (sc := sc) (yes := yes) (tx := tx)
    (Q := fun n H' => ∀ D, H' D = none → R (.ref D) (upd H' D (.lst (flt yes tx n))))
    (Rr := compPost (model X.prog X.w) X.A X.xe none (EP X pins σ R) (.ref D) (D + 1)) I1 hDs (Nat.lt_succ_self _) (Nat.ne_of_lt aD) (Nat.ne_of_lt (Nat.lt_succ_of_lt aD)) hr.hd (by have := hr.dp; omega) rfl hkd
    (lookup_relabel_local hlt) hd (hbf _) (hbg _) hm (fun i s2 H' hi os2 hb2 un hok h1 h2 hns ⟨xs, c, e, r⟩ q => ?_) sizeLine
    { s1 with heap := (s1.heap.push { cls := .type "list", data := .seq ([] : List Value).toArray }).push { cls := .type "dict", data := .dict #[] } } ?_
  · exact codeAny_compStart_list loop (wpAny_pyIter_gen (hg.keeps kp4) loop)
  · obtain ⟨mm, hns⟩ := hns
    have J := I1.drained hDs (by have := flt_len (yes := yes) (tx := tx) (n := i); omega) e r ExOk.nil os2 hb2 un hok h1
    have fC : FpOk X pins (upd H' D (.lst (flt yes tx i))) (D + 1) := I1.fpOk (Nat.le_succ_of_le hDs) (by rw [upd_ne (Nat.succ_ne_self D)]; exact h2)
    obtain ⟨f0, f1, f2, f3, f4, f5⟩ := fC
    exact ⟨mm, hns, fun h'' sb => ⟨.ref D, _, J.turned (t' := s2.toks) (fun b o hb e => (sb.2 b hb).trans e) f0 f1 f3 f4 f5, rfl, q D h1⟩⟩
  · refine ⟨hg.keeps kp4, hl.keeps kp4, hos, hb, ⟨_, hgs, rfl, ?_⟩, ⟨0, #[], 0, rfl, eD, .nil⟩, ⟨_, nsC⟩⟩
    refine wake _ [D, D + 1] _ ⟨hr.hd, ?_, ?_⟩ I1.ok.frames (fun b hb => ?_) kp4 hos (allBare_setGen hb rfl)
    · have := hr.dp
      show X.A.depth + 3 * k + 5 < _
      omega
    · have := hr.un
      show X.A.units + 1 + 16 * k + 200 < _
      omega
    · rcases List.mem_cons.mp hb with rfl | hb
      · exact ⟨Nat.le_of_eq hDe, _, eD, fun _ q => by cases q⟩
      · rw [List.mem_singleton.mp hb]
        obtain ⟨o, es, ep, e, hdat, _⟩ := nsC
        exact ⟨by rw [hDe]; exact Nat.le_succ D, o, e, fun _ q => by rw [hdat] at q; cases q⟩
end
end Gg
/-! ### sorted(set(xs)) of any texts -/
namespace Sg
open PySem PySem.Spec PyProof.Rows L2
/-! a set of texts whose table rises -/
def word (e : Int × Value) : Str := match e.2 with | .str k _ => k | _ => Str.empty
def WordE (P : Program) (w : World) (e : Int × Value) : Prop := ∃ k tk, e.2 = Value.str k tk ∧ e.1 = (PySem.strKind P w).hash k
def SetS (P : Program) (w : World) (h : Heap) (a : Addr) (S : Str → Bool) (n : Nat) : Prop :=
  ∃ o es ep t, h.get? a = some o ∧ o.ExactSet ∧ o.data = .set es ep t ∧ (∀ e ∈ es.toList, WordE P w e) ∧ (es.toList.map word).Nodup ∧ (∀ k, S k = true ↔ k ∈ es.toList.map word) ∧
    es.size < scanBound ∧ t.fits es.size = true ∧ es.size = n ∧ Ris t.place.toList ∧ (w.params.followText "set-order" = true ∨ t.led = true)
section
variable {P : Program} {w : World} {h h' : Heap} {a : Addr} {S : Str → Bool} {n : Nat}
theorem SetS.at_ (R : SetS P w h a S n) (k : ∀ o, h.get? a = some o → h'.get? a = some o) : SetS P w h' a S n :=
  let ⟨o, es, ep, t, ho, r⟩ := R
  ⟨o, es, ep, t, k o ho, r⟩
theorem SetS.same {S' : Str → Bool} {n' : Nat} (R : SetS P w h a S n) (e : ∀ k, S' k = true ↔ S k = true) (en : n = n') : SetS P w h a S' n' := by
  have q : S' = S := funext fun k => by
    rw [Bool.eq_iff_iff]; exact e k
  rw [q, ← en]; exact R
theorem word_elems {l : List (Int × Value)} (g : ∀ e ∈ l, WordE P w e) : ElemsOf (PySem.strKind P w) l := fun e he => by
  obtain ⟨k, tk, q1, q2⟩ := g e he
  exact ⟨⟨k, by rw [q1]; exact strKind_is P w k tk, q2⟩, by rw [q1]; rfl⟩
theorem word_is {e : Int × Value} (g : WordE P w e) (k : Str) : (PySem.strKind P w).is k e.2 = true ↔ word e = k := by
  obtain ⟨k0, tk, q1, _⟩ := g
  unfold word
  rw [q1]
  simp only [PySem.strKind, Value.isStrOf]
  constructor
  · intro h; first | exact (beq_iff_eq.mp h) | exact (beq_iff_eq.mp h).symm | exact of_decide_eq_true h | simpa using h
  · intro h; subst h; simp
theorem word_mem {l : List (Int × Value)} (g : ∀ e ∈ l, WordE P w e) (k : Str) : k ∈ l.map word ↔ ∃ e ∈ l, (PySem.strKind P w).is k e.2 = true := by
  rw [List.mem_map]
  exact ⟨fun ⟨e, he, q⟩ => ⟨e, he, (word_is (g e he) k).2 q⟩, fun ⟨e, he, q⟩ => ⟨e, he, (word_is (g e he) k).1 q⟩⟩
theorem SetS.setOf (R : SetS P w h a S n) : h.SetOf (PySem.strKind P w) a S n := by
  obtain ⟨o, es, ep, t, ho, hx, hd, g, nd, hm, hb, hf, hn, _⟩ := R
  exact ⟨o, es, ep, t, ho, hx, hd, word_elems g, fun k => (hm k).trans (word_mem g k), hb, hf, hn⟩
end
section
variable {P : Program} {w : World} {A : Around} {E : Value → Shared → Prop} {s : Shared} {a : Addr} {S : Str → Bool} {n : Nat}
theorem add_end {g : Bool → Sem Unit} (hg : ∀ (b : Bool) (s₁ : Shared) (Q' : Unit → Shared → Prop), Q' () s₁ → wpAny (model P w) A (g b) Q' E s₁)
    {o : Obj} {es : Array (Int × Value)} {ep : Nat} {t : SetTable} (ho : s.heap.get? a = some o) (hex : o.ExactSet) (hd : o.data = .set es ep t)
    {fs : Array (Int × Value)} {t2 : SetTable} {S' : Str → Bool} (g1 : ∀ e ∈ fs.toList, WordE P w e) (nd1 : (fs.toList.map word).Nodup) (m1 : ∀ k, S' k = true ↔ k ∈ fs.toList.map word)
    (hb1 : fs.size < scanBound) (hf2 : t2.fits fs.size = true) (hr : Ris t2.place.toList) (hl : w.params.followText "set-order" = true ∨ t2.led = true) {wd : Bool} {R : Option Bool → Shared → Prop}
    (hR : ∀ h', Heap.SameBut a s.heap h' → SetS P w h' a S' fs.size → R (some true) { s with heap := h' }) :
    wpAny (model P w) A (do
        storeSet a fs t2
        if (!wd && t2.tooFull) = true then do
            g (relayAll t2 fs (SetTable.grown fs.size)).2.2
            storeSet a (relayAll t2 fs (SetTable.grown fs.size)).1 (relayAll t2 fs (SetTable.grown fs.size)).2.1
            pure (some true)
          else pure (some true)) R E s := by
  refine wpAny_bind (wpAny_storeSet_of ho hd ?_ (fits_of_scanBound hb1))
  have o1 := store_at (es' := fs) (t' := t2) ho hd
  have sb := Heap.SameBut.update s.heap a (Obj.putSet fs t2)
  split
  · have pm := relayAll_perm t2 fs (SetTable.grown fs.size)
    have f3 := relayAll_fits t2 fs (SetTable.grown fs.size)
    have r3 := relayAll_ris t2 fs (SetTable.grown fs.size)
    have l3 := relayAll_led t2 fs (SetTable.grown fs.size)
    generalize relayAll t2 fs (SetTable.grown fs.size) = Z at pm f3 r3 l3 ⊢
    obtain ⟨gs, t3, gave⟩ := Z
    dsimp only at pm f3 r3 l3 ⊢
    have sz : gs.size = fs.size := by rw [← Array.length_toList, pm.length_eq, Array.length_toList]
    refine wpAny_bind (hg _ _ _ (wpAny_bind (wpAny_storeSet_of o1 rfl ?_ (fits_of_scanBound (by rw [sz]; exact hb1)))))
    have o2 := store_at (es' := gs) (t' := t3) o1 rfl
    refine wpAny_pure (hR _ (sb.trans (Heap.SameBut.update _ a _)) ⟨_, gs, _, t3, o2, hex, rfl, fun e he => g1 e (pm.mem_iff.mp he), (pm.map word).nodup_iff.mpr nd1, fun k => (m1 k).trans (pm.map word).mem_iff.symm, by rw [sz]; exact hb1, f3, sz, r3, hl.imp id fun z => by rw [l3]; exact z⟩)
  · exact wpAny_pure (hR _ sb ⟨_, fs, _, t2, o1, hex, rfl, g1, nd1, m1, hb1, hf2, rfl, hr, hl⟩)
theorem add_one {k : Str} {tk : Tok} {Q : Bool → Shared → Prop} (R : SetS P w s.heap a S n) (room : n + 1 < scanBound)
    (hQ : ∀ h', Heap.SameBut a s.heap h' → SetS P w h' a (fun j => S j || decide (j = k)) (if S k = true then n else n + 1) → Q (!S k) { s with heap := h' }) :
    wpAny (model P w) A (setAddHashed a (.str k tk) ((PySem.strKind P w).hash k)) Q E s := by
  obtain ⟨o, es, ep, t, ho, hex, hd, g, nd, hm, hb, hf, hn, hr, hl⟩ := R
  have hkey : (PySem.strKind P w).is k (.str k tk) = true := strKind_is P w k tk
  have hsc : (Value.str k tk).scannable = true := rfl
  have hel : ElemsOf (PySem.strKind P w) es.toList := word_elems g
  unfold setAddHashed setAddHashedIn
  refine wpAny_holding (wpAny_bind (wpAny_setState_of ho hd hf ?_))
  dsimp only
  rw [byScan_of hsc hb hel]
  simp only [↓reduceIte]
  unfold setAddByScan
  refine wpAny_bind (wpAny_bind (wpAny_rule (wpAny_bind (wpAny_setScan_of hkey ho hd hf hel ?_))))
  cases hfi : List.findIdx? (fun e => (PySem.strKind P w).is k e.2) es.toList with
  | some j =>
    dsimp only
    obtain ⟨hj, pj, _⟩ := List.findIdx?_eq_some_iff_getElem.mp hfi
    have hSk : S k = true := (hm k).2 ((word_mem g k).2 ⟨es.toList[j], List.getElem_mem hj, pj⟩)
    refine wpAny_pure (wpAny_pure ?_)
    have q := hQ s.heap (Heap.SameBut.refl a s.heap) ⟨o, es, ep, t, ho, hex, hd, g, nd, fun i => by
      rw [Bool.or_eq_true, decide_eq_true_eq, ← hm i]
      exact ⟨fun z => z.elim id (fun e => e ▸ hSk), .inl⟩, hb, hf, by rw [if_pos hSk]; exact hn, hr, hl⟩
    rw [hSk] at q
    exact q
  | none =>
    dsimp only
    have hnk : k ∉ es.toList.map word := fun z => by
      obtain ⟨e, he, q⟩ := (word_mem g k).1 z
      have c := List.findIdx?_eq_none_iff.mp hfi e he
      rw [q] at c
      cases c
    have hSk : S k = false := by
      cases q : S k with
      | false => rfl
      | true => exact absurd ((hm k).1 q) hnk
    have hgw : ∀ (b : Bool) {s₁ : Shared} {Q' : Unit → Shared → Prop}, Q' () s₁ → wpAny (model P w) A (match b with | true => rule "set.scan.the-table-gave-way" | false => pure ()) Q' E s₁ :=
      fun b s₁ Q' q => by cases b <;> first | exact wpAny_pure q | exact wpAny_rule q
    have pm := layNew_perm t es ((PySem.strKind P w).hash k) (.str k tk)
    have f1 := layNew_fits t es ((PySem.strKind P w).hash k) (.str k tk)
    have r1 := layNew_ris t es ((PySem.strKind P w).hash k) (.str k tk) hr
    have l1 := layNew_led t es ((PySem.strKind P w).hash k) (.str k tk)
    generalize layNew t es ((PySem.strKind P w).hash k) (.str k tk) = Z at pm f1 r1 l1 ⊢
    obtain ⟨fs, t1, wd, gave⟩ := Z
    dsimp only at pm f1 r1 l1 ⊢
    rw [Array.toList_push] at pm
    have pc : fs.toList.Perm (((PySem.strKind P w).hash k, Value.str k tk) :: es.toList) := pm.trans (List.perm_append_singleton _ _)
    have pk : (fs.toList.map word).Perm (k :: es.toList.map word) := pc.map word
    have g1 : ∀ e ∈ fs.toList, WordE P w e := fun e he => by
      rcases List.mem_cons.mp (pc.mem_iff.mp he) with z | z
      · rw [z]; exact ⟨k, tk, rfl, rfl⟩
      · exact g e z
    have nd1 : (fs.toList.map word).Nodup := pk.nodup_iff.mpr (List.nodup_cons.mpr ⟨hnk, nd⟩)
    have m1 : ∀ i, (S i || decide (i = k)) = true ↔ i ∈ fs.toList.map word := fun i => by
      rw [Bool.or_eq_true, decide_eq_true_eq, hm i, pk.mem_iff, List.mem_cons]
      exact Or.comm
    have sz : fs.size = n + 1 := by rw [← Array.length_toList, pc.length_eq, List.length_cons, Array.length_toList, hn]
    have hb1 : fs.size < scanBound := by rw [sz]; exact room
    have hled : w.params.followText "set-order" = true ∨ t1.led = true := hl.imp id fun z => by rw [l1]; exact z
    have fin : ∀ h', Heap.SameBut a s.heap h' → SetS P w h' a (fun j => S j || decide (j = k)) fs.size → Q true { s with heap := h' } := fun h' sb r => by
      have q := hQ h' sb
      rw [hSk] at q
      rw [sz] at r
      exact q r
    refine wpAny_bind (hgw _ ?_)
    split
    · refine wpAny_bind ?_
      rw [hashByValue_scannable 8 hsc]
      refine wpAny_pure (add_end ?_ ho hex hd g1 nd1 m1 hb1 ?_ ?_ ?_ ?_)
      · intro b s₁ Q' q; cases b <;> first | exact wpAny_pure q | exact wpAny_rule q
      · first | (split <;> first | exact f1 | exact SetTable.fits_plain_off f1) | exact f1
      · first | (split <;> exact r1) | exact r1
      · first | (split <;> exact hled) | exact hled
      · intro h' sb r; dsimp only; exact wpAny_pure (fin h' sb r)
    · refine wpAny_bind (wpAny_pure ?_)
      simp only [↓reduceIte]
      refine add_end ?_ ho hex hd g1 nd1 m1 hb1 f1 r1 hled ?_
      · intro b s₁ Q' q; cases b <;> first | exact wpAny_pure q | exact wpAny_rule q
      · intro h' sb r; dsimp only; exact wpAny_pure (fin h' sb r)
/-- sorted(found) -/
theorem sorted_words {Q : Value → Shared → Prop} (R : SetS P w s.heap a S n) (hh : A.handled = none)
    (hQ : ∀ s' p (out : Array Value) (c : Nat) (ns : List Str), (∀ b o, s.heap.get? b = some o → s'.heap.get? b = some o) → s'.gens = s.gens → s'.os = s.os → s.heap.objs.size ≤ p →
      s'.heap.get? p = some (seqObj "list" out c) → StrsAre out.toList ns → ns.Nodup → sortedS ns = true → (∀ k, k ∈ ns ↔ S k = true) → ns.length = n → Q (.ref p) s') :
    wpAny (model P w) A (call (.builtin "sorted") [.ref a]) Q E s := by
  obtain ⟨o, es, ep, t, ho, hex, hd, g, nd, hm, hb, hf, hn, hr, hl⟩ := R
  refine Calls.call_function_entry kind_sorted plain_sorted entry_sorted (args_sorted1 _) ?_
  unfold Builtin.«sorted»
  refine wpAny_bind (m := checkCount "sorted" 1 1 _) (wpAny_pure ?_)
  refine wpAny_bind (collect_set (A := A.in1) hh ⟨o, ho, hex.1, hd⟩ hf hb hr hl fun s1 vs k1 hz g1 o1 pm => ?_)
  have hvl : vs.length = n := by rw [pm.length_eq, List.length_map, Array.length_toList]; exact hn
  have hsl : vs.length ≤ sizeLine := by rw [hvl, ← hn]; exact fits_of_scanBound hb
  obtain ⟨ss, hI, pk⟩ : ∃ ss, StrsAre vs ss ∧ ss.Perm (es.toList.map word) := by
    have key : ∀ (l : List Value), (∀ v ∈ l, ∃ k tk, v = Value.str k tk) → StrsAre l (l.map fun v => word (0, v)) := fun l => by
      induction l with
      | nil => intro _; exact .nil
      | cons v l ih =>
        intro h
        obtain ⟨k, tk, rfl⟩ := h v List.mem_cons_self
        exact .cons k tk (ih fun u hu => h u (List.mem_cons_of_mem _ hu))
    refine ⟨_, key vs fun v hv => ?_, ?_⟩
    · obtain ⟨e, he, q⟩ := List.mem_map.mp (pm.mem_iff.mp hv)
      obtain ⟨k, tk, q1, _⟩ := g e he
      exact ⟨k, tk, by rw [← q]; exact q1⟩
    · have q := pm.map fun v => word (0, v)
      rw [List.map_map] at q
      exact q
  refine wpAny_bind (wpAny_newList ?_ hsl)
  have hoL : (s1.heap.push (seqObj "list" vs.toArray 0)).get? s1.heap.objs.size = some (seqObj "list" vs.toArray 0) := Heap.get?_push_size _ rfl
  refine wpAny_bind (wpAny_holding (wpAny_call_entry slot_list_sort ⟨_, hoL, rfl⟩ entry_list_sort (list_sort_treeKAny strKind_oneLt hoL hI.keysOf (fun v₁ v₂ rest e => keyKind_strs (by rw [← e]; exact hI)) hsl fun st' hp hs => ⟨_, rfl, ?_⟩) (args_list_sort _)))
  obtain ⟨ns, a1, a2, a3⟩ := sorted_out_str hI hp hs
  obtain ⟨c, hc⟩ := sortedHeap_at (vs := vs) (out := (arrOf st').map (·.2)) hoL
  have pn : ns.Perm (es.toList.map word) := a2.trans pk
  refine wpAny_pure ⟨_, rfl, hQ _ s1.heap.objs.size _ c ns (fun b u e => ?_) g1 o1 hz hc a1 (pn.nodup_iff.mpr nd) a3 (fun k => by rw [pn.mem_iff, ← hm k]) ?_⟩
  · have q := k1 b u e
    have hlt := Heap.lt_size q
    show (sortedHeap (s1.heap.push (seqObj "list" vs.toArray 0)) s1.heap.objs.size vs _).get? b = some u
    rw [sortedHeap_old (Nat.ne_of_lt hlt) (by rw [size_push']; exact Nat.lt_succ_of_lt hlt)]
    exact Heap.get?_push_of_some _ q
  · rw [pn.length_eq, List.length_map, Array.length_toList]; exact hn
end
section
variable {p : Program} {w : World} {A : Around} {R : Result → Shared → Prop} {E : Value → Shared → Prop} {I : Addr} {fp wr : List Addr} {G : Array GenState → Array GenState → Prop} {n : Nat} {P : Nat → Value → Prop} {St : Nat → Shared → Prop} {s : Shared}
/-- how many unlike ones there are among the first i -/
def dc (xs : List Str) : Nat → Nat
  | 0 => 0
  | i + 1 => if xs.getD i Str.empty ∈ xs.take i then dc xs i else dc xs i + 1
theorem dc_succ (xs : List Str) (i : Nat) : dc xs (i + 1) = if xs.getD i Str.empty ∈ xs.take i then dc xs i else dc xs i + 1 := rfl
theorem dc_le (xs : List Str) : ∀ i, dc xs i ≤ i
  | 0 => Nat.le_refl _
  | i + 1 => by
    have := dc_le xs i
    unfold dc
    split <;> omega
theorem dc_nodup {xs : List Str} : ∀ {i : Nat}, i ≤ xs.length → (dc xs i = i ↔ (xs.take i).Nodup)
  | 0, _ => by simp [dc]
  | i + 1, h => by
    have ih := dc_nodup (xs := xs) (i := i) (by omega)
    have le := dc_le xs i
    have hi : i < xs.length := by omega
    have eg : xs.getD i Str.empty = xs[i] := by rw [List.getD_eq_getElem?_getD, List.getElem?_eq_getElem hi]; rfl
    have et : xs.take (i + 1) = xs.take i ++ [xs[i]] := by rw [List.take_succ, List.getElem?_eq_getElem hi]; rfl
    rw [et, List.nodup_append]
    unfold dc
    rw [eg]
    constructor
    · intro e
      split at e
      · omega
      · rename_i c
        exact ⟨ih.mp (by omega), by simp, fun a ha b hb z => c (by rw [List.mem_singleton.mp hb] at z; rw [← z]; exact ha)⟩
    · rintro ⟨n1, _, n3⟩
      rw [if_neg (fun z => n3 _ z _ List.mem_cons_self rfl), ih.mpr n1]
theorem dc_all {xs : List Str} : dc xs xs.length = xs.length ↔ xs.Nodup := by
  have := dc_nodup (xs := xs) (i := xs.length) (Nat.le_refl _)
  rw [List.take_length] at this
  exact this
/-- the first i of xs are in the set at S -/
def Has (p : Program) (w : World) (h : Heap) (S : Addr) (xs : List Str) (i : Nat) : Prop := SetS p w h S (fun z => decide (z ∈ xs.take i)) (dc xs i)
theorem Has.at_ {h h' : Heap} {S : Addr} {xs : List Str} {i : Nat} (k : ∀ o, h.get? S = some o → h'.get? S = some o) : Has p w h S xs i → Has p w h' S xs i
  | ⟨o, es, ep, t, ho, r⟩ => ⟨o, es, ep, t, k o ho, r⟩
abbrev eset (w : World) : Obj := { cls := .type "set", dict := none, data := .set #[] 0 (.fresh 0 0 (!w.params.followText "set-order")) }
theorem Has.fresh {h : Heap} {S : Addr} {xs : List Str} (e : h.get? S = some (eset w)) : Has p w h S xs 0 :=
  ⟨_, #[], 0, _, e, ⟨rfl, rfl, rfl⟩, rfl, (fun e he => by simp at he), (by simp), (fun k => by simp), (by decide), (by rfl), rfl, List.Pairwise.nil, by
    show _ ∨ (!w.params.followText "set-order") = true
    cases w.params.followText "set-order"
    · exact .inr rfl
    · exact .inl rfl⟩
theorem mem_next {xs : List Str} {i : Nat} (hi : i < xs.length) (z : Str) : z ∈ xs.take (i + 1) ↔ z ∈ xs.take i ∨ z = xs.getD i Str.empty := by
  have eg : xs.getD i Str.empty = xs[i] := by rw [List.getD_eq_getElem?_getD, List.getElem?_eq_getElem hi]; rfl
  have et : xs.take (i + 1) = xs.take i ++ [xs[i]] := by rw [List.take_succ, List.getElem?_eq_getElem hi]; rfl
  rw [eg, et, List.mem_append, List.mem_singleton]
/-- the loop: text behind text -/
theorem upd_strs (W : WalksS p w A.in1 I fp wr G n P St) {S : Addr} (hSf : S ∉ fp) {xs : List Str} (hn : xs.length = n) (hb : n + 1 < scanBound) (hval : ∀ i v, P i v → ∃ t, v = .str (xs.getD i Str.empty) t) :
    ∀ (j i : Nat) (s : Shared), i + j = n → St i s → Has p w s.heap S xs i → (∀ s', Moved (S :: wr) G s s' → Has p w s'.heap S xs n → R (.ok (.ret .none)) s') →
      codeAny (model p w) A (.builtin "set.update.loop" ⟨[.ref S, .ref I], []⟩) R s := by
  have nw : S ∉ wr := fun z => hSf (W.sub _ z)
  have up : ∀ b ∈ wr, b ∈ S :: wr := fun _ z => .tail _ z
  intro j
  induction j with
  | zero =>
    rintro i s rfl hs hS hR
    refine codeAny_builtin PyProof.Rows.F.entry_set_update_loop ?_
    rw [Around.under_plainId PyProof.Rows.F.plain_set_update_loop _]
    exact wpAny_bind (W.done s _ _ hs fun s' m => wpAny_pure (hR s' (m.mono up) (hS.at_ fun o e => m.heap S o nw e)))
  | succ j ih =>
    intro i s hij hs hS hR
    refine codeAny_builtin PyProof.Rows.F.entry_set_update_loop ?_
    rw [Around.under_plainId PyProof.Rows.F.plain_set_update_loop _]
    refine wpAny_bind (W.item i s _ _ (by omega) hs fun v s1 hP hs1 m => ?_)
    obtain ⟨t, rfl⟩ := hval i v hP
    have hS1 : Has p w s1.heap S xs i := hS.at_ fun o e => m.heap S o nw e
    have n2 := mem_next (xs := xs) (i := i) (by omega)
    have dl := dc_le xs i
    show wpAny _ A.in1 (holding [Value.str (xs.getD i Str.empty) t] (setAdd S (.str (xs.getD i Str.empty) t)) >>= _) _ _ s1
    refine wpAny_bind (wpAny_holding ?_)
    unfold setAdd
    refine wpAny_holding (wpAny_bind ((PySem.strKind p w).pyHash (k := xs.getD i Str.empty) (strKind_is _ _ _ _) ?_))
    refine add_one (s := { s1 with toks := s1.toks + 1 }) hS1 (by omega) fun h2 sb hS2 => ?_
    have hS3 : Has p w h2 S xs (i + 1) := hS2.same (fun z => by
      simp only [Bool.or_eq_true, decide_eq_true_eq]
      exact n2 z) (by rw [dc_succ]; simp only [decide_eq_true_eq])
    refine wpAny_pure ⟨plainId_quiet PyProof.Rows.F.plain_set_update_loop _, ih (i + 1) _ (by omega) (W.frame _ s1 _ _ hs1 (Nat.le_succ _) fun b hb' o e => ?_) hS3 fun s3 m3 hS4 => hR s3 (Moved.trans W.gtrans ((m.mono up).then_heap (Nat.le_succ _) fun b o nb e => ?_) m3) hS4⟩
    · exact (sb.2 b fun z => hSf (z ▸ hb')).trans e
    · exact (sb.2 b fun z => nb (z ▸ .head _)).trans e
end
/-- set.__new__ with one thing behind the class -/
theorem code_new1 {prog : Program} {w : World} {A : Around} {E : Value → Shared → Prop} {s : Shared} (a : Value) {Q₁ : Value → Shared → Prop} (h : Q₁ (.ref s.heap.objs.size) { s with heap := s.heap.push (eset w) }) :
    codeAny (model prog w) A (.call (.builtin "set.__new__") ⟨[.type "set", a], []⟩) (wants Q₁ E) s := by
  refine codeAny_of_tree ?_
  show wpAny _ A.in1 (do checkBuiltinCall "set.__new__" ⟨[.type "set", a], []⟩; again (.builtin "set.__new__" ⟨[.type "set", a], []⟩)) _ _ s
  refine wpAny_bind (wpAny_of_eq (F.newCall_set_1 a) (wpAny_pure ⟨plainId_quiet F.plain_set_new _, codeAny_builtin F.entry_set_new ?_⟩))
  rw [Around.under_plainId F.plain_set_new _]
  unfold Builtin.«set.__new__» Builtin.Frozenset.newClass
  have hsub := sub_set_self
  obtain ⟨hp, g, d, tk, os⟩ := s
  dsimp only
  wp_walk
  refine wpAny_askSetting (wpAny_pure ?_)
  dsimp only
  simp only [newObj]
  refine wpAny_bind (wpAny_alloc (wpAny_pure ?_))
  exact wpAny_pure h
theorem set_list {p : Program} {w : World} {A : Around} {E : Value → Shared → Prop} {s : Shared} {l : Addr} {its : Array Value} {xs : List Str} {Q : Value → Shared → Prop} (hh : A.handled = none) (hl : s.heap.IsList l its) (hi : StrsAre its.toList xs) (hb : xs.length + 1 < scanBound)
    (h : ∀ (h' : Heap) (tk : Nat), Has p w h' s.heap.objs.size xs xs.length → (∀ b o, b < s.heap.objs.size → s.heap.get? b = some o → h'.get? b = some o) → Q (.ref s.heap.objs.size) { s with heap := h', toks := tk }) :
    wpAny (model p w) A (call (.type "set") [.ref l]) Q E s := by
  obtain ⟨c, tl, hmro⟩ := PySem.F.called_set.mro
  have f1 := PySem.F.called_set.made
  have f2 := PySem.F.called_set.sub
  have f3 := PySem.F.called_set.notType
  have f4 := PySem.F.called_set.canCreate
  have f5 := PySem.F.typeCall_set_1 (.ref l)
  refine wpAny_call (codeAny_of_tree ?_)
  show wpAny _ _ (callAny (.type "set") _) _ _ _
  refine wpAny_pure ⟨Code.quiet_builtin _ (by decide +kernel), codeAny_builtin PySem.F.entry_type_call ?_⟩
  rw [Around.under_plain (weight_type_call_type "set" [.ref l] []) rfl]
  repeat (any_goals (first | assumption | wp_step))
  refine codeAny_mono (code_new1 (w := w) (.ref l) (E := E) (Q₁ := fun u s₁ => u = .ref s.heap.objs.size ∧ s₁ = { s with heap := s.heap.push (eset w) }) ⟨rfl, rfl⟩) fun r s₁ hr => ?_
  match r, hr with
  | .error _, hr => exact hr
  | .ok .next, hr => exact hr.elim
  | .ok .brk, hr => exact hr.elim
  | .ok .cont, hr => exact hr.elim
  | .ok (.ret u), hr =>
  obtain ⟨rfl, rfl⟩ := hr
  have hS : (s.heap.push (eset w)).get? s.heap.objs.size = some (eset w) := Heap.get?_push_size _ rfl
  have hT : Shared.TypeIs { s with heap := s.heap.push (eset w) } (.ref s.heap.objs.size) "set" := ⟨_, hS, rfl⟩
  have g1 := PySem.F.called_set.init.lookup
  have g2 := PySem.F.called_set.init.bind (.ref s.heap.objs.size)
  repeat (any_goals (first | assumption | wp_step))
  refine codeAny_mono (codeAny_call_builtin (R := wants (fun r s₂ => r = .none ∧ ∃ h' tk, s₂ = { s with heap := h', toks := tk } ∧ Has p w h' s.heap.objs.size xs xs.length ∧ (∀ b o, b < s.heap.objs.size → s.heap.get? b = some o → h'.get? b = some o)) E) PySem.F.called_set.init.plain PySem.F.entry_set_init (check_set_init_1 hT ?_)) fun r₂ s₂ hr₂ => ?_
  · obtain ⟨⟨oc, od, dt, sl⟩, ho, hc, nl, hd⟩ := hl
    simp only at hc hd
    subst hc hd
    have ho' : (s.heap.push (eset w)).get? l = some { cls := .type "list", dict := od, data := .seq its nl, slots := sl } := Heap.get?_push_of_some _ ho
    have t1 := PySem.F.sub_list_set
    have t2 := PySem.F.sub_list_frozenset
    have t3 : (Value.type "list" == Value.type "dict") = false := by decide
    have hl1 : (s.heap.push (eset w)).IsList l its := ⟨_, ho', rfl, nl, rfl⟩
    unfold Builtin.«set.__init__» noKeywords Builtin.Frozenset.updateFrom
    generalize hPI : pyIter = PI
    wp_walk
    subst hPI
    have lt := Heap.lt_size ho
    have sz : (s.heap.push (eset w)).objs.size = s.heap.objs.size + 1 := Heap.size_push _ _
    have ne : l ≠ (s.heap.push (eset w)).objs.size := by rw [sz]; exact Nat.ne_of_lt (Nat.lt_succ_of_lt lt)
    refine wpAny_pyIter_list hl1 (wpAny_bind (wpAny_runValue ?_))
    refine upd_strs (xs := xs) (S := s.heap.objs.size) ((Walks.list (A := A.in1.in1.in1) (by simp [hh]) _ l ne its).toS) ?_ (by rw [← StrsAre.len_eq hi, Array.length_toList]) (by rw [← Array.length_toList, StrsAre.len_eq hi]; exact hb) (fun i v hv => SS.strs_at hi i v (by rw [Array.getElem?_toList]; exact hv)) its.size 0 _ (Nat.zero_add _)
      ⟨⟨_, Heap.get?_push_size _ rfl, rfl, rfl⟩, hl1.push _⟩ (.fresh (Heap.get?_push_of_some _ hS)) ?_
    · rw [sz]
      simp only [List.mem_cons, List.not_mem_nil, or_false, not_or]
      exact ⟨Nat.ne_of_lt (Nat.lt_succ_self _), Nat.ne_of_gt lt⟩
    · rintro ⟨h', g', d', tk', os'⟩ m hS'
      obtain rfl : g' = s.gens := m.gens
      obtain rfl : d' = s.drawn := m.drawn
      obtain rfl : os' = s.os := m.os
      rw [show its.size = xs.length by rw [← Array.length_toList, StrsAre.len_eq hi]] at hS'
      refine wpAny_pure (wpAny_pure ⟨rfl, h', tk', rfl, hS', fun b o hb e => m.heap b o ?_ (Heap.get?_push_of_some _ (Heap.get?_push_of_some _ e))⟩)
      rw [sz]
      simp only [List.mem_cons, List.not_mem_nil, or_false, not_or]
      exact ⟨Nat.ne_of_lt hb, Nat.ne_of_lt (Nat.lt_succ_of_lt hb)⟩
  · match r₂, hr₂ with
    | .error _, hr₂ => exact hr₂
    | .ok .next, hr₂ => exact hr₂.elim
    | .ok .brk, hr₂ => exact hr₂.elim
    | .ok .cont, hr₂ => exact hr₂.elim
    | .ok (.ret r), hr₂ =>
      obtain ⟨rfl, h', tk, rfl, q1, q2⟩ := hr₂
      repeat (any_goals (first | assumption | wp_step))
      exact h _ _ q1 q2

end Sg
namespace L2
open PySem PySem.Spec PyProof.Rows
/-- sorted(set(xs)), xs a list of texts -/
def tSorSet (K : PySem.W.Frag) (ta : TE) : TE := fun σ H Q => ta σ H fun x H1 => ∃ (l : Addr) (xs : List Str), x = .ref l ∧ SqL K H1 l (xs.map V.str) ∧ xs.length + 1 < scanBound ∧
  ∀ (ys : List Str) (p : Addr), ys.Nodup → sortedS ys = true → (∀ k, k ∈ ys ↔ k ∈ xs) → H1 p = none → Q (.ref p) (upd H1 p (.lst (ys.map V.str)))
theorem pe_sorSet {X : Cx} {K : PySem.W.Frag} {a : Expr} {ta : TE} {p p2 q pos : Pos} (hK : X.K = K) (hc : X.calm = true) (hg : Gl X "sorted") (hm : X.mg "sorted" = none) (hg2 : Gl X "set") (hm2 : X.mg "set" = none) (ha : PE X a ta)
    (na : starEach [a] X.env = (false, eval a X.env) :: starEach [] X.env := by rfl) : PE X (.Call (.Name "sorted" p) [.Call (.Name "set" p2) [a] [] q] [] pos) (tSorSet K ta) := by
  subst hK
  refine ⟨fun pins s σ H Q I h => ?_⟩
  refine Call_ (ld_blt I hg hm boot_sorted (callWith_builtin1 (args_cons ?_ rfl) rfl rfl))
  refine Call_ (ld_blt I hg2 hm2 boot_set (callWith_type1 (args_cons (thn (ha.run pins s σ H _ I h) fun v s1 ⟨x, H1, I1, r1, l, xs, e, hq, hb, q1⟩ => args_nil ?_) na) na rfl))
  subst e
  cases r1
  obtain ⟨its, r, pl, _⟩ := I1.list hq
  refine Sg.set_list (I1.ok.hd hc) pl.isList (by simpa using strsAre_of r) hb fun h' tk hS hk => args_nil ?_
  have I2 : Inv X pins σ H1 { s1 with heap := h', toks := tk } := I1.kept fun b o e => hk b o (Heap.lt_size e) e
  generalize hs2 : ({ s1 with heap := h', toks := tk } : Shared) = s2 at I2 ⊢
  have hS : Sg.Has X.prog X.w s2.heap s1.heap.objs.size xs xs.length := by rw [← hs2]; exact hS
  refine Sg.sorted_words hS (I1.ok.hd hc) fun s' p out c ns k g o hp hg hi nd hs hmem hl => ?_
  have hlen : (ns.map V.str).length ≤ sizeLine := by
    rw [List.length_map, hl]
    have := Sg.dc_le xs xs.length
    have := fits_of_scanBound (n := xs.length) (by omega)
    omega
  have hn : H1 p = none := I2.hok.fresh hp
  have J : Inv X pins σ (upd H1 p (.lst (ns.map V.str))) { s2 with heap := s'.heap, gens := s'.gens, drawn := s'.drawn, toks := s'.toks } :=
    I2.call (ch := []) (Un.laid k hp hn) (I2.hok.laid k hp ⟨hlen, out.toList, c, vals_of_strs hi, hg⟩) (by rw [g]; exact I2.bare) (fun _ z => nomatch z)
  have e : s' = { s2 with heap := s'.heap, gens := s'.gens, drawn := s'.drawn, toks := s'.toks } := by
    cases s'
    cases s2
    cases o
    rfl
  rw [e]
  exact ⟨.ref p, _, J, rfl, q1 ns p nd hs (fun k => by rw [hmem k, List.take_length]; exact decide_eq_true_iff) hn⟩
end L2
namespace Bs
open PySem PySem.Spec PyProof.Rows L2 SX
/-! ### second stories -/
def sec : Mt → Mt
  | .mk so w ts b => .mk so w (ts.map sec) (decide (so = .row))
theorem sec_mk (so : So) (w : List Nat) (ts : List Mt) (b : Bool) : sec (.mk so w ts b) = .mk so w (ts.map sec) (decide (so = .row)) := by rw [sec]
theorem sec_sec (t : Mt) : sec (sec t) = sec t := by
  induction t using Mt.ind with
  | h so w ts b ih =>
    rw [sec_mk, sec_mk, List.map_map]
    congr 1
    exact List.map_congr_left fun t ht => ih t ht
theorem IsRow.sec {t : Mt} (h : IsRow t) : IsRow (Bs.sec t) := by
  cases h with
  | mk h => rw [sec_mk]; exact .mk h
theorem IsVal.sec {n : Nat} {t : Mt} (h : IsVal n t) : IsVal n (Bs.sec t) := by
  induction h with
  | col h hr => rw [sec_mk]; exact .col h hr.sec
  | @fn n w ts h h1 h3 hs ih =>
    rw [sec_mk]
    exact .fn h (by rw [List.length_map]; exact h1) (by rw [List.length_map]; exact h3) fun u hu => by
      obtain ⟨t, ht, rfl⟩ := List.mem_map.mp hu
      exact ih t ht
theorem IsTerm.sec {t : Mt} (h : IsTerm t) : IsTerm (Bs.sec t) := by
  cases h with
  | row h => exact .row h.sec
  | place h => rw [sec_mk]; exact .place h.sec
  | zero => rw [sec_mk]; exact .zero
  | val h => exact .val h.sec
  | @rule w ts h h1 h3 hs =>
    rw [sec_mk]
    exact .rule h (by rw [List.length_map]; exact h1) (by rw [List.length_map]; exact h3) fun u hu => by
      obtain ⟨t, ht, rfl⟩ := List.mem_map.mp hu
      exact (hs t ht).sec
theorem rc_sec (t : Mt) : rc (sec t) = rc t := by
  induction t using Mt.ind with
  | h so w ts b ih =>
    rw [sec_mk, rc_mk, rc_mk, List.map_map]
    by_cases c : so = .row
    · rw [if_pos c, if_pos c]
    · rw [if_neg c, if_neg c]
      congr 1
      exact List.map_congr_left fun t ht => ih t ht
def Mt.so : Mt → So
  | .mk so _ _ _ => so
/-- the rows' texts, as the law puts them together -/
def rws : Mt → List Str
  | .mk so w ts b => if so = .row then [S (Mt.mk so w ts b).txt] else (ts.map rws).flatten
theorem rws_mk (so : So) (w : List Nat) (ts : List Mt) (b : Bool) : rws (.mk so w ts b) = if so = .row then [S (Mt.mk so w ts b).txt] else (ts.map rws).flatten := by rw [rws]
theorem rws_len (t : Mt) : (rws t).length = rc t := by
  induction t using Mt.ind with
  | h so w ts b ih =>
    rw [rws_mk, rc_mk]
    by_cases c : so = .row
    · rw [if_pos c, if_pos c]; rfl
    · rw [if_neg c, if_neg c, List.length_flatten, List.map_map]
      congr 1
      exact List.map_congr_left fun t ht => ih t ht
theorem mem_rws {n : Nat} {t : Mt} (h : Wt n t) (k : Str) : k ∈ rws t ↔ ∃ u ∈ sub t, u.so = .row ∧ S u.txt = k := by
  induction h with
  | @mk n so w ts b h hs ih =>
    rw [rws_mk]
    by_cases c : so = .row
    · obtain rfl := h.leaf (.inl c)
      rw [if_pos c, List.mem_singleton]
      constructor
      · intro e
        exact ⟨_, sub_self _, c, e.symm⟩
      · rintro ⟨u, hu, _, e⟩
        rcases sub_mem.mp hu with ⟨t, ht, _⟩ | rfl
        · cases ht
        · exact e.symm
    · rw [if_neg c, List.mem_flatten]
      constructor
      · rintro ⟨l, hl, hk⟩
        obtain ⟨t, ht, rfl⟩ := List.mem_map.mp hl
        obtain ⟨u, hu, q⟩ := (ih t ht).mp hk
        exact ⟨u, sub_mem.mpr (.inl ⟨t, ht, hu⟩), q⟩
      · rintro ⟨u, hu, e1, e2⟩
        rcases sub_mem.mp hu with ⟨t, ht, hu⟩ | rfl
        · exact ⟨_, List.mem_map_of_mem ht, (ih t ht).mpr ⟨u, hu, e1, e2⟩⟩
        · exact absurd e1 c
/-! ### lists of texts in order -/
theorem str_ext {a b : Str} (h : a.cps.toList = b.cps.toList) : a = b := by
  rw [← S_tl a, ← S_tl b, h]
def ge_ (a b : Str) : Prop := a.cps.toList ≤ b.cps.toList
theorem ge_of {a b : Str} (h : (!ltCps b.cps.toList a.cps.toList) = true) : ge_ a b := by
  rw [ltCps_eq] at h
  have h2 : ¬ b.cps.toList < a.cps.toList := by simpa using h
  exact List.not_lt.mp h2
theorem rising_pw : ∀ {l : List Str} {p : Str}, risingS p l = true → (p :: l).Pairwise ge_
  | [], p, _ => List.pairwise_singleton _ _
  | x :: r, p, h => by
    have h : (!ltCps x.cps.toList p.cps.toList && risingS x r) = true := h
    obtain ⟨h1, h2⟩ := Bool.and_eq_true_iff.mp h
    have ih := rising_pw h2
    refine List.pairwise_cons.mpr ⟨fun y hy => ?_, ih⟩
    rcases List.mem_cons.mp hy with rfl | hy
    · exact ge_of h1
    · exact List.le_trans (ge_of h1) ((List.pairwise_cons.mp ih).1 y hy)
theorem sorted_pw {l : List Str} (h : sortedS l = true) : l.Pairwise ge_ := by
  cases l with
  | nil => exact List.Pairwise.nil
  | cons x r => exact rising_pw h
theorem sorted_one : ∀ {xs ys : List Str}, xs.Pairwise ge_ → ys.Pairwise ge_ → xs.Nodup → ys.Nodup → (∀ k, k ∈ xs ↔ k ∈ ys) → xs = ys
  | [], [], _, _, _, _, _ => rfl
  | [], y :: ys, _, _, _, _, h => absurd ((h y).mpr List.mem_cons_self) (by simp)
  | x :: xs, [], _, _, _, _, h => absurd ((h x).mp List.mem_cons_self) (by simp)
  | x :: xs, y :: ys, h1, h2, n1, n2, h => by
    obtain ⟨a1, b1⟩ := List.pairwise_cons.mp h1
    obtain ⟨a2, b2⟩ := List.pairwise_cons.mp h2
    obtain ⟨c1, d1⟩ := List.nodup_cons.mp n1
    obtain ⟨c2, d2⟩ := List.nodup_cons.mp n2
    have e : x = y := by
      rcases List.mem_cons.mp ((h x).mp List.mem_cons_self) with e | hx
      · exact e
      rcases List.mem_cons.mp ((h y).mpr List.mem_cons_self) with e | hy
      · exact e.symm
      exact str_ext (List.le_antisymm (a1 y hy) (a2 x hx))
    subst e
    refine congrArg _ (sorted_one b1 b2 d1 d2 fun k => ⟨fun hk => ?_, fun hk => ?_⟩)
    · rcases List.mem_cons.mp ((h k).mp (List.mem_cons_of_mem _ hk)) with e | z
      · exact absurd (e ▸ hk) c1
      · exact z
    · rcases List.mem_cons.mp ((h k).mpr (List.mem_cons_of_mem _ hk)) with e | z
      · exact absurd (e ▸ hk) c2
      · exact z
/-! ### the rows among what is handed out -/
def yesOf (l : List Mt) (i : Nat) : Bool := match l[i]? with
  | some u => decide (u.so = .row)
  | none => false
def txOf (l : List Mt) (i : Nat) : V := match l[i]? with
  | some u => .str (S u.txt)
  | none => .non
def rowTs (l : List Mt) : List Str := (l.filter fun u => decide (u.so = .row)).map fun u => S u.txt
theorem flt_take (l : List Mt) : ∀ n, n ≤ l.length → Gg.flt (yesOf l) (txOf l) n = (rowTs (l.take n)).map V.str
  | 0, _ => by simp [Gg.flt, rowTs]
  | n + 1, h => by
    have hn : n < l.length := h
    have e : l[n]? = some l[n] := List.getElem?_eq_getElem hn
    have et : l.take (n + 1) = l.take n ++ [l[n]] := by rw [List.take_succ, e]; rfl
    have ey : yesOf l n = decide (l[n].so = .row) := by unfold yesOf; rw [e]
    have ex : txOf l n = .str (S l[n].txt) := by unfold txOf; rw [e]
    rw [Gg.flt_one, flt_take l n (Nat.le_of_lt hn), ey, ex, et]
    unfold rowTs
    rw [List.filter_append, List.map_append, List.map_append]
    by_cases c : l[n].so = .row
    · have f1 : [l[n]].filter (fun u => decide (u.so = .row)) = [l[n]] := by simp [c]
      rw [if_pos (decide_eq_true c), f1]; rfl
    · have f1 : [l[n]].filter (fun u => decide (u.so = .row)) = [] := by simp [c]
      rw [if_neg (by simpa using c), f1]; simp
theorem flt_all (l : List Mt) : Gg.flt (yesOf l) (txOf l) l.length = (rowTs l).map V.str := by
  rw [flt_take l _ (Nat.le_refl _), List.take_length]
theorem mem_rowTs {l : List Mt} {k : Str} : k ∈ rowTs l ↔ ∃ u ∈ l, u.so = .row ∧ S u.txt = k := by
  unfold rowTs
  rw [List.mem_map]
  constructor
  · rintro ⟨u, hu, e⟩
    obtain ⟨h1, h2⟩ := List.mem_filter.mp hu
    exact ⟨u, h1, of_decide_eq_true h2, e⟩
  · rintro ⟨u, h1, h2, e⟩
    exact ⟨u, List.mem_filter.mpr ⟨h1, decide_eq_true h2⟩, e⟩
theorem nodup_rowTs {l : List Mt} (h : (l.map Mt.txt).Nodup) : (rowTs l).Nodup := by
  unfold rowTs
  have h1 : ((l.filter fun u => decide (u.so = .row)).map Mt.txt).Nodup := h.sublist (List.Sublist.map _ List.filter_sublist)
  have e : (l.filter fun u => decide (u.so = .row)).map (fun u => S u.txt) = ((l.filter fun u => decide (u.so = .row)).map Mt.txt).map S := by rw [List.map_map]; rfl
  rw [e]
  exact List.pairwise_map.mpr (h1.imp fun {a b} hne e => hne (S_inj e))
theorem fo_nodup : ∀ {l acc : List Mt}, (acc.map Mt.txt).Nodup → ((fo l acc).map Mt.txt).Nodup
  | [], _, h => h
  | m :: l, acc, h => by
    rw [show Bs.fo (m :: l) acc = Bs.fo l (Bs.addO acc m) from rfl]
    refine fo_nodup ?_
    by_cases c : m.txt ∈ acc.map Mt.txt
    · rw [addO_in c]; exact h
    · rw [addO_out c, List.map_append]
      refine List.nodup_append.mpr ⟨h, by simp, fun a ha b hb e => c ?_⟩
      have e2 : b = m.txt := by simpa using hb
      rw [← e2, ← e]; exact ha
end Bs
namespace Bs
open PySem PySem.Spec PyProof.Rows L2 SX
def spSec (C : Addr) (n : Nat) : Sp := fun vs H Q _ => ∃ (G : Hp) (m : Mt) (v : V), vs = [v] ∧ Same G H ∧ TAt C G v m ∧ Wt n m ∧ Wt n (sec m) ∧ ∀ (G' H' : Hp) (x : Addr), Step none G H G' H' → TAt C G' (.ref x) (sec m) → Q (.ref x) H'
def spSecM (n : Nat) : Sp := fun vs H Q _ => ∃ (G : Hp) (m : Mt) (v : V), vs = [v] ∧ Same G H ∧ MAt G v m ∧ Wt n m ∧ ∀ (G' H' : Hp) (x : V), Step none G H G' H' → MAt G' x (sec m) → Q x H'
def spRwsM (n : Nat) : Sp := fun vs H Q _ => ∃ (G : Hp) (m : Mt) (v : V), vs = [v] ∧ Same G H ∧ MAt G v m ∧ Wt n m ∧ rc m ≤ 1000 ∧ ∀ (H' : Hp) (l : Addr), Step none G H G H' → G l = none → H' l = some (.lst ((rws m).map V.str)) → Q (.ref l) H'
def spDepM (n : Nat) : Sp := fun vs H Q _ => ∃ (G : Hp) (m : Mt) (v : V), vs = [v] ∧ Same G H ∧ MAt G v m ∧ Wt n m ∧ ∀ (H' : Hp), Step none G H G H' → Q (.int (m.dep : Nat)) H'
theorem tf_none {so : So} {w : List Nat} {l : Addr} {b : Bool} {t : List Nat} {d : Nat} {f : Str} (h : f ∉ (["kind", "name", "parts", "marked", "text", "_depth"] : List Str)) : (tf so w l b t d).lookup f = none := by
  simp only [List.mem_cons, List.not_mem_nil, or_false, not_or] at h
  obtain ⟨h1, h2, h3, h4, h5, h6⟩ := h
  unfold tf
  rw [lookup_putF, if_neg h6, lookup_putF, if_neg h5, lookup_putF, if_neg h4, lookup_putF, if_neg h3, lookup_putF, if_neg h2, lookup_putF, if_neg h1]
  rfl
theorem so_row (so : So) : decide (V.str so.s = V.str (Str.ofString "row")) = decide (so = .row) := by cases so <;> decide +kernel
theorem Wt.secs {n : Nat} {so : So} {w : List Nat} {ts : List Mt} {b : Bool} (h : Wt (n + 1) (sec (.mk so w ts b))) : Sh2 so w (ts.map sec) (decide (so = .row)) ∧ ∀ t ∈ ts, Wt n (sec t) := by
  rw [sec_mk] at h
  cases h with
  | mk h2 hs => exact ⟨h2, fun t ht => hs _ (List.mem_map_of_mem ht)⟩
end Bs
namespace Pf
open PySem PySem.Spec PyProof.Rows L2 Bs SX
variable {P : Program} {w : World} {K : PySem.W.Frag} {mg : Str → Option Value} {base : Heap}
abbrev N_Term_second : List Str := ["self", "part"]
theorem sc_Term_second : FnScope N_Term_second ["self"] (defScope s_Term_second) := ⟨rfl, rfl, rfl, by decide +kernel, rfl, by decide +kernel, by decide +kernel⟩
theorem t_second (T : Tx K mg) : ∀ n : Nat, C8.Met P w K mg base (n + 5) (CT K) "second" (spSec (CT K) n) []
  | 0 => by
    obtain ⟨fd, F⟩ := f_Term_second T
    have RB : Binds K fd ["self"] [] := F.bindsN fun _ _ _ _ _ _ us hl => match us, hl with | [_], _ => rfl
    have RO : FnOk P w K mg base C8.CX0 (0 + 5) (He.ma K (CT K) "second") fd ["self"] (spSec (CT K) 0) :=
      ok0 (k := 4) F sc_Term_second (fun vs H Q E ⟨G, m, v, _, _, _, h, _⟩ => nomatch h) (fun cdv A outer s H vs Q E hr ⟨G, m, v, _, _, _, h, _⟩ => nomatch h)
    exact ⟨_, fd, _, _, cls_Term_ T, meth_Term_second T, RO, RB, .nil⟩
  | n + 1 => by
    obtain ⟨fd, F⟩ := f_Term_second T
    have t_second := t_second T n
    have m_Term := m_Term (P := P) (w := w) (base := base) T
    have RB : Binds K fd ["self"] [] := F.bindsN fun _ _ _ _ _ _ us hl => match us, hl with | [_], _ => rfl
    have RO : FnOk P w K mg base C8.CX0 (n + 5 + 1) (He.ma K (CT K) "second") fd ["self"] (spSec (CT K) (n + 1)) := by
      refine ok0 (k := n + 5) F sc_Term_second (fun vs H Q E h => ?_) (fun cdv A outer s H vs Q E hr h => ?_)
      · obtain ⟨G, m, v, rfl, _⟩ := h
        rfl
      obtain ⟨G, m, v, rfl, hG, ht, hw, hw2, q⟩ := h
      have sl : sizeLine = 16777216 := rfl
      have C0 := cls_Term_ T
      cases hw with
      | @mk n so w ts b h2 hs =>
      obtain ⟨h2', hs'⟩ := hw2.secs
      obtain ⟨ta, dx, l, tv, rfl, hta, hl, htt⟩ := ht.parts
      refine ⟨_, (pss_one (ps_ret (C8.pe_mk m_Term hr (by first | decide | omega) rfl (pa_cons (pe_fldK (K := K) rfl (pv 0) (by rfl)) (pa_cons (pe_fldK (K := K) rfl (pv 0) (by rfl)) (pa_cons (pe_lc (own := [("part", 1)]) rfl sc_Term_second.nd (pi_listK (K := K) rfl (pe_fldK (K := K) rfl (pv 0) (by rfl))) (blkOk_by (N := N_Term_second) (sc := defScope s_Term_second) (by decide +kernel)) (fun _ _ _ _ _ => (pg_name (i := 1) sc_Term_second.nd rfl (Or.inl rfl))) (fun _ _ _ _ _ => pts_nil) (fun _ _ _ _ _ => (C8.pe_mt0 t_second hr (by first | decide | omega) (pv 1)))) (pa_cons pe_bl pa_nil))))))), ?_⟩
      refine ⟨_, rfl, ta, CT K, dx, _, _, rfl, hG _ _ hta, C0, noat_Term_kind T, tf_kind, ?_⟩
      refine ⟨_, rfl, ta, CT K, dx, _, _, rfl, hG _ _ hta, C0, noat_Term_name T, tf_name, ?_⟩
      refine ⟨_, rfl, ta, CT K, dx, _, _, rfl, hG _ _ hta, C0, noat_Term_parts T, tf_parts, l, rfl, ⟨_, SqL.of (hG _ _ hl)⟩, fun D hD => ?_⟩
      have gD : G D = none := hG.free hD
      refine lc_list (K := K) (a := l) (xs := tv) (fun i H' => ∃ (G' : Hp) (xs : List V), Step none G H G' H' ∧ G' D = none ∧ H' D = some (.lst xs) ∧ All2 (TAt (CT K) G') xs ((ts.take i).map sec)) ⟨G, [], (Step.refl hG).loc hD gD, gD, upd_same, .nil⟩ ?_ ?_ ?_
      · rintro i H' _ ⟨G', xs, st, _⟩
        exact SqL.of (st.gh _ _ (st.gg _ _ hl))
      · rintro i x H' hx ⟨G', xs, st, g', hL, hall⟩
        obtain ⟨t, ht, mt⟩ := get_pair htt.len hx
        refine ⟨rfl, ?_⟩
        unfold tYes
        have hxt := (htt.get hx ht).same st.gg
        obtain ⟨xa, xd, xl, xso, xw, xts, xb, rfl, _, hxa⟩ := id hxt.obj
        refine iteT ⟨_, rfl, xa, xd, _, rfl, st.gh _ _ hxa, tf_none (by decide +kernel), G', t, .ref xa, rfl, st.gh, hxt, hs t mt, hs' t mt, fun G2 H2 y s2 hy => ⟨_, s2.same _ _ hL, ?_, G2, xs ++ [.ref y], ?_, ?_, upd_same, ?_⟩⟩
        · have := h2.sh.t3
          have := hall.len
          rw [List.length_map, List.length_take] at this
          omega
        · exact (st.trans s2).loc hD (s2.out g' (by rw [hL]; exact fun z => by cases z))
        · exact s2.out g' (by rw [hL]; exact fun z => by cases z)
        · rw [take_one ht, List.map_append]
          exact (hall.mono fun _ _ r => r.same s2.gg).app (.cons hy .nil)
      rintro H' ⟨G', xs, st, g', hL, hall⟩
      rw [htt.len, List.take_length] at hall
      refine make_term (so := so) (w := w) (b := true) (pv := xs) (ts := ts.map sec) st.gh (.inl (SqL.of hL)) hall.len (fun i v t h1 h2 => hall.get h1 h2) h2'.sh fun G2 H2 x s2 hx _ => ?_
      rw [Bool.and_true] at hx
      exact q G2 H2 x (st.trans s2) (by rw [sec_mk]; exact hx)
    exact ⟨_, fd, _, _, cls_Term_ T, meth_Term_second T, RO, RB, .nil⟩
abbrev N_Lsecond : List Str := ["_law_model", "_law_kind", "_law_name", "_law_parts", "_law_marked", "_law_part"]
theorem sc_Lsecond : FnScope N_Lsecond ["_law_model"] (defScope s_Lsecond) := ⟨rfl, rfl, rfl, by decide +kernel, rfl, by decide +kernel, by decide +kernel⟩
theorem c_Lsecond (T : Tx K mg) : ∀ n : Nat, C8.Cal P w K mg base n "_law_second" (spSecM n) []
  | 0 => by
    obtain ⟨fd, F⟩ := f_Lsecond T
    exact cal_none F (g_law_second T) (F.bindsN (ps := ["_law_model"]) fun _ _ _ _ _ _ us hl => match us, hl with | [_], _ => rfl) fun vs H Q E ⟨G, m, v, _, _, _, h, _⟩ => nomatch h
  | n + 1 => by
    obtain ⟨fd, F⟩ := f_Lsecond T
    have c_Lsecond := c_Lsecond T n
    refine mkCal F (g_law_second T) (F.bindsN fun _ _ _ _ _ _ us hl => match us, hl with | [_], _ => rfl) .nil sc_Lsecond (fun vs H Q E h => ?_) (fun cdv A outer s H vs Q E hr h => ?_)
    · obtain ⟨G, m, v, rfl, _⟩ := h
      rfl
    obtain ⟨G, m, v, rfl, hG, hm, hw, q⟩ := h
    have sl : sizeLine = 16777216 := rfl
    cases hw with
    | @mk n so w ts b h2 hs =>
    obtain ⟨a, p, pv', rfl, ha, hp, hts⟩ := hm.parts
    refine ⟨_, (pss_cons (ps_asg (pv 0) (pg_tup rfl (pgs_cons (pg_name (i := 1) sc_Lsecond.nd rfl (Or.inl rfl)) (pgs_cons (pg_name (i := 2) sc_Lsecond.nd rfl (Or.inl rfl)) (pgs_cons (pg_name (i := 3) sc_Lsecond.nd rfl (Or.inl rfl)) (pgs_cons (pg_name (i := 4) sc_Lsecond.nd rfl (Or.inl rfl)) pgs_nil))))))
    (pss_one (ps_ret (pe_tup (pa_cons (pv 1) (pa_cons (pv 2) (pa_cons (pe_callTy call_tuple_of (by rfl) (z_tuple T) boot_tuple (pa_cons (pe_lc (own := [("_law_part", 5)]) rfl sc_Lsecond.nd (pi_tupK (K := K) rfl (pv 3)) (blkOk_by (N := N_Lsecond) (sc := defScope s_Lsecond) (by decide +kernel)) (fun _ _ _ _ _ => (pg_name (i := 5) sc_Lsecond.nd rfl (Or.inl rfl))) (fun _ _ _ _ _ => pts_nil) (fun _ _ _ _ _ => (C8.pe_c c_Lsecond hr (by first | decide | omega) rfl (pa_cons (pv 5) pa_nil)))) pa_nil)) (pa_cons (pe_cmpR op_eq (pv 1) pe_str (nomark _)) pa_nil)))))))), ?_⟩
    refine ⟨_, rfl, a, _, rfl, SqT.of (hG _ _ ha), rfl, _, _, rfl, _, _, rfl, _, _, rfl, _, _, rfl, rfl, ?_⟩
    refine ⟨_, rfl, _, rfl, _, rfl, p, rfl, ⟨_, SqT.of (hG _ _ hp)⟩, fun D hD => ?_⟩
    have gD : G D = none := hG.free hD
    refine lc_tup (K := K) (a := p) (xs := pv') (fun i H' => ∃ (G' : Hp) (xs : List V), Step none G H G' H' ∧ G' D = none ∧ H' D = some (.lst xs) ∧ All2 (MAt G') xs ((ts.take i).map sec)) ⟨G, [], (Step.refl hG).loc hD gD, gD, upd_same, .nil⟩ ?_ ?_ ?_
    · rintro i H' _ ⟨G', xs, st, _⟩
      exact SqT.of (st.gh _ _ (st.gg _ _ hp))
    · rintro i x H' hx ⟨G', xs, st, g', hL, hall⟩
      obtain ⟨t, ht, mt⟩ := get_pair hts.len hx
      refine ⟨rfl, ?_⟩
      unfold tYes
      refine iteT ⟨_, rfl, G', t, x, rfl, st.gh, (hts.get hx ht).same st.gg, hs t mt, fun G2 H2 y s2 hy => ⟨_, s2.same _ _ hL, ?_, G2, xs ++ [y], ?_, ?_, upd_same, ?_⟩⟩
      · have := h2.sh.t3
        have := hall.len
        rw [List.length_map, List.length_take] at this
        omega
      · exact (st.trans s2).loc hD (s2.out g' (by rw [hL]; exact fun z => by cases z))
      · exact s2.out g' (by rw [hL]; exact fun z => by cases z)
      · rw [take_one ht, List.map_append]
        exact (MAts.same s2.gg hall).app (.cons hy .nil)
    rintro H' ⟨G', xs, st, g', hL, hall⟩
    rw [hts.len, List.take_length] at hall
    refine ⟨D, xs, rfl, .inl ⟨SqL.of hL, fun t0 h0 => ?_⟩⟩
    refine ⟨_, rfl, rfl, by show 4 ≤ sizeLine; decide, fun t h => ?_⟩
    have u8 : Step none G' H' (upd G' t0 (.tup xs)) (upd H' t0 (.tup xs)) := (Step.refl st.gh).new_ h0
    have u9 : Step none (upd G' t0 (.tup xs)) (upd H' t0 (.tup xs)) (upd (upd G' t0 (.tup xs)) t (.tup [.str so.s, .str (S w), .ref t0, .bl (decide (so = .row))])) (upd (upd H' t0 (.tup xs)) t (.tup [.str so.s, .str (S w), .ref t0, .bl (decide (so = .row))])) := (Step.refl u8.gh).new_ h
    rw [so_row so]
    refine q _ _ (.ref t) ((st.trans u8).trans u9) ?_
    rw [sec_mk]
    exact .of (p := t0) (vs := xs) upd_same (u9.gg _ _ upd_same) (MAts.same (u8.gg.trans u9.gg) hall)
end Pf
namespace L2
open PySem PySem.Spec PyProof.Rows
/-- sorted(xs), texts, any number of them -/
def rSortedSA (K : PySem.W.Frag) : List V → Hp → VK → Prop := fun vs H Q => ∃ (a : Addr) (xs : List Str), vs = [V.ref a] ∧ SqL K H a (xs.map V.str) ∧ xs.length ≤ sizeLine ∧
  ∀ (ys : List Str) (p : Addr), ys.Perm xs → sortedS ys = true → H p = none → Q (.ref p) (upd H p (.lst (ys.map V.str)))
theorem cr_sortedSA {X : Cx} : CallR X (.builtin "sorted") (rSortedSA X.K) := by
  intro pins s σ H vs us Q I r h
  obtain ⟨a, xs, rfl, hs, hz, q⟩ := h
  obtain ⟨its, rv, hl, _⟩ := I.list hs
  rw [Vals.ref1 r]
  have len0 := rv.length
  rw [List.length_map] at len0
  refine PyProof.Rows.sorted_strsAny hl.isList rv.strs (by rw [← len0]; exact hz) fun out ys h1 h2 h3 => ?_
  obtain ⟨ep, he⟩ := PyProof.Rows.sortedAll_at s.heap its out
  have len1 : (ys.map V.str).length ≤ sizeLine := by rw [List.length_map, h2.length_eq]; exact hz
  exact ⟨.ref _, upd H (s.heap.objs.size + 1) (.lst (ys.map V.str)), I.laid (t' := s.toks) (fun _ _ => PyProof.Rows.sortedAll_old) (Nat.le_succ _) ⟨len1, out.toList, ep, vals_of_strs h1, he⟩, rfl, q ys _ h2 h3 (I.hok.fresh (Nat.le_succ _))⟩
end L2
namespace Bs
open PySem PySem.Spec PyProof.Rows L2 SX Gg
def spSubF (C : Addr) : SpF := fun vs H F Q => ∃ (G : Hp) (v : V) (m : Mt), vs = [v] ∧ Same G H ∧ TAt C G v m ∧ Wt 12 m ∧ Gd m ∧
  ∀ (H' : Hp) (out : List V), Step none G H G H' → All2 (TAt C G) out (fo (sub m) []) → (∀ j x, out[j]? = some x → F j x H') ∧ Q out.length H'
/-- o.row_names() -/
def spNames_ (C : Addr) : Sp := fun vs H Q _ => ∃ (G : Hp) (v : V) (m : Mt), vs = [v] ∧ Same G H ∧ TAt C G v m ∧ Wt 12 m ∧ Gd m ∧
  ∀ (H' : Hp) (l : Addr) (ys : List Str), Step none G H G H' → H l = none → H' l = some (.lst (ys.map V.str)) → ys.length ≤ 1000000 → ys.Nodup → ys.Pairwise ge_ → (∀ k, k ∈ ys ↔ k ∈ rws m) → Q (.ref l) H'
theorem so_kind (so : So) : (so.s.cps.toList == (Str.ofString "row").cps.toList) = decide (so = .row) := by cases so <;> decide +kernel
/-- what may change at f was free before -/
theorem Step.absorb_ {G H G1 H1 : Hp} {f : Addr} {o : HO} (hf : H f = none) (a : Step (some f) G (upd H f o) G1 H1) : Step none G H G1 H1 where
  gg := a.gg
  gh := a.gh
  new b hb := by
    rcases a.new b hb with h | h
    · exact .inl h
    · by_cases c : b = f
      · exact .inr (c ▸ hf)
      · rw [upd_ne c] at h; exact .inr h
  kp b u e _ := by
    have c : b ≠ f := ne_of_none e hf
    exact a.kp b u (by rw [upd_ne c]; exact e) fun z => c (Option.some.inj z)
  pp b e := by cases e
end Bs
namespace Pf
open PySem PySem.Spec PyProof.Rows L2 Bs SX Gg
variable {P : Program} {w : World} {K : PySem.W.Frag} {mg : Str → Option Value} {base : Heap}
abbrev N_Term_subterms : List Str := ["self", "found"]
theorem sg_Term_subterms : GScope N_Term_subterms ["self"] (defScope s_Term_subterms) := ⟨rfl, rfl, rfl, by decide +kernel, rfl, by decide +kernel, by decide +kernel⟩
theorem gf_Term_subterms (T : Tx K mg) : ∃ fd, Gf P w K mg base 14 (He.ma K (CT K) "subterms") fd ["self"] (spSubF (CT K)) ∧ Binds K fd ["self"] [] := by
  obtain ⟨fd, F⟩ := f_Term_subterms T
  have c_find_subterms := c_find_subterms (P := P) (w := w) (base := base) T 12
  have hb := F.bindsN (ps := ["self"]) fun _ _ _ _ _ _ us hl => match us, hl with | [_], _ => rfl
  obtain ⟨oc, od, dV, kV, doc, pm, an, cdv, ct, osl, rfl, lk, hcd, hD, _⟩ := F.ex
  refine ⟨_, gf_of (k := 13) (N := N_Term_subterms) lk hcd sg_Term_subterms (fun vs H F Q h => ?_) (fun A outer s H vs F Q pn hr h => ?_), hb⟩
  · obtain ⟨G, v, m, rfl, _⟩ := h
    rfl
  obtain ⟨G, v, m, rfl, hG, ht, hw, hg, q⟩ := h
  refine ⟨_, _, _, ps_set (i := 1) sg_Term_subterms.nd rfl (Or.inl rfl) pe_dnewK, ps_expr (C8.pe_c c_find_subterms hr (by first | decide | omega) rfl (pa_cons (pv 0) (pa_cons (pv 1) pa_nil))), yf_lst (pe_listVals rfl rfl (z_list T) (pv 1)), ?_⟩
  have sl : sizeLine = 16777216 := rfl
  have h12 := sub_len hw
  have p12 : (3 : Nat) ^ 12 = 531441 := by decide
  have hfo := fo_len (l := sub m) (acc := [])
  refine fun f hf => ?_
  have gf : G f = none := hG.free hf
  refine ⟨_, rfl, _, rfl, G, f, v, m, [], rfl, Same.off hG gf, gf, ht, hw, hg, (fun x hx => by cases hx), (fun x hx => by cases hx), ⟨[], upd_same, .nil⟩, by rw [List.length_nil]; omega, fun H2 s2 hf2 => ?_⟩
  obtain ⟨vs, hd, hall⟩ := hf2
  have st := Step.absorb_ hf s2
  refine ⟨_, rfl, f, _, rfl, hd, fun l hl => ⟨l, _, rfl, upd_same, ?_⟩⟩
  rw [kd_vals hall.len]
  rw [List.length_nil] at hfo
  obtain ⟨q1, q2⟩ := q _ vs (st.loc (st.free hl) (st.gh.free hl)) hall
  exact ⟨by rw [hall.len]; omega, q1, q2⟩
abbrev N_Term_row_names : List Str := ["self", "term"]
theorem sc_Term_row_names : FnScope N_Term_row_names ["self"] (defScope s_Term_row_names) := ⟨rfl, rfl, rfl, by decide +kernel, rfl, by decide +kernel, by decide +kernel⟩
theorem t_row_names (T : Tx K mg) : C8.Met P w K mg base 18 (CT K) "row_names" (spNames_ (CT K)) [] := by
  obtain ⟨fd, F⟩ := f_Term_row_names T
  obtain ⟨gfd, GF, GB⟩ := gf_Term_subterms (P := P) (w := w) (base := base) T
  have RB : Binds K fd ["self"] [] := F.bindsN fun _ _ _ _ _ _ us hl => match us, hl with | [_], _ => rfl
  have RO : FnOk P w K mg base C8.CX0 18 (He.ma K (CT K) "row_names") fd ["self"] (spNames_ (CT K)) := by
    refine ok0 (k := 17) F sc_Term_row_names (fun vs H Q E h => ?_) (fun cdv A outer s H vs Q E hr h => ?_)
    · obtain ⟨G, v, m, rfl, _⟩ := h
      rfl
    obtain ⟨G, v, m, rfl, hG, ht, hw, hg, q⟩ := h
    have sl : sizeLine = 16777216 := rfl
    have C0 := cls_Term_ T
    have h12 := sub_len hw
    have p12 : (3 : Nat) ^ 12 = 531441 := by decide
    have hfo := fo_len (l := sub m) (acc := [])
    rw [List.length_nil] at hfo
    refine ⟨_, pss_one (ps_ret (pe_callB cr_sortedSA (by rfl) (z_sorted T) boot_sorted (pa_cons (pe_gc (pm_meth (pv 0) (cls_Term_ T) (meth_Term_subterms T) GF (hr.mono (by decide)) GB) hr rfl rfl) pa_nil))), ?_⟩
    obtain ⟨ta, dx, l, so, w, ts, b, rfl, em, hta⟩ := id ht.obj
    refine ⟨yesOf (fo (sub m) []), txOf (fo (sub m) []), ?_⟩
    refine ⟨_, rfl, ta, dx, _, rfl, hG _ _ hta, tf_none (by decide +kernel), G, .ref ta, m, rfl, hG, ht, hw, hg, fun H' out st hall => ⟨fun j x hx => ?_, fun D hD => ?_⟩⟩
    · obtain ⟨u, hu, mu⟩ := get_pair hall.len hx
      obtain ⟨ua, ux, ul, us, uw, uts, ub, rfl, eu, hua⟩ := (hall.get hx hu).obj
      refine ⟨ua, CT K, ux, _, us.s, rfl, st.gh _ _ hua, C0, noat_Term_text T, noat_Term_kind T, tf_kind, ?_, ?_⟩
      · unfold txOf; rw [hu]; exact tf_text
      · unfold yesOf; rw [hu, eu]; exact so_kind us
    · rw [hall.len, flt_all]
      refine ⟨D, rowTs (fo (sub m) []), rfl, SqL.of upd_same, ?_, fun ys p hp hs hpn => ?_⟩
      · have := List.length_filter_le (fun u : Mt => decide (u.so = .row)) (fo (sub m) [])
        unfold rowTs
        rw [List.length_map]
        omega
      have nd : (rowTs (fo (sub m) [])).Nodup := nodup_rowTs (fo_nodup List.nodup_nil)
      have hlen : (rowTs (fo (sub m) [])).length ≤ 531441 := by
        have := List.length_filter_le (fun u : Mt => decide (u.so = .row)) (fo (sub m) [])
        unfold rowTs
        rw [List.length_map]
        omega
      have s2 := st.loc (o := .lst ((rowTs (fo (sub m) [])).map V.str)) (st.free hD) (st.gh.free hD)
      have s3 := s2.loc (o := .lst (ys.map V.str)) (s2.free hpn) (s2.gh.free hpn)
      refine q _ p ys s3 (s2.free hpn) upd_same (by rw [hp.length_eq]; omega) (hp.nodup_iff.mpr nd) (sorted_pw hs) fun k => ?_
      rw [hp.mem_iff, mem_rowTs, mem_rws hw]
      constructor
      · rintro ⟨u, hu, e⟩
        rcases (mem_fo (acc := []) (fun x hx => by cases hx) (sub_gd m hg)).mp hu with h | h
        · cases h
        · exact ⟨u, h, e⟩
      · rintro ⟨u, hu, e⟩
        exact ⟨u, (mem_fo (acc := []) (fun x hx => by cases hx) (sub_gd m hg)).mpr (.inr hu), e⟩
  exact ⟨_, fd, _, _, cls_Term_ T, meth_Term_row_names T, RO, RB, .nil⟩
end Pf
namespace Bs
open PySem PySem.Spec PyProof.Rows L2 SX Gg
theorem rc_part {ts : List Mt} {t : Mt} (h : t ∈ ts) : rc t ≤ (ts.map rc).sum := by
  induction ts with
  | nil => cases h
  | cons a r ih =>
    rw [List.map_cons, List.sum_cons]
    rcases List.mem_cons.mp h with rfl | h
    · omega
    · have := ih h; omega
theorem rws_take {ts : List Mt} {i : Nat} {t : Mt} (h : ts[i]? = some t) : ((ts.take (i + 1)).map rws).flatten = ((ts.take i).map rws).flatten ++ rws t := by
  rw [take_one h, List.map_append, List.flatten_append]
  simp
theorem sum_take {ts : List Mt} (i : Nat) : ((ts.take i).map rws).flatten.length ≤ (ts.map rc).sum := by
  have e : (ts.map rc).sum = ((ts.take i).map rc).sum + ((ts.drop i).map rc).sum := by
    rw [← List.sum_append, ← List.map_append, List.take_append_drop]
  rw [List.length_flatten, List.map_map, e]
  have e2 : (ts.take i).map (List.length ∘ rws) = (ts.take i).map rc := List.map_congr_left fun t _ => rws_len t
  rw [e2]; omega
theorem foldr_max {m : Nat} : ∀ {l : List Nat}, (m = 0 ∨ m ∈ l) → (∀ x ∈ l, x ≤ m) → l.foldr max 0 = m
  | [], h, _ => by
    rcases h with h | h
    · rw [h]; rfl
    · cases h
  | a :: l, h, hl => by
    rw [List.foldr_cons]
    have ha := hl a List.mem_cons_self
    have up : ∀ {l : List Nat}, (∀ x ∈ l, x ≤ m) → l.foldr max 0 ≤ m := fun {l} => by
      induction l with
      | nil => intro _; exact Nat.zero_le _
      | cons b l ih =>
        intro h
        rw [List.foldr_cons]
        exact Nat.max_le.mpr ⟨h b List.mem_cons_self, ih fun x hx => h x (List.mem_cons_of_mem _ hx)⟩
    have hr := up fun x hx => hl x (List.mem_cons_of_mem _ hx)
    rcases h with h | h
    · omega
    · rcases List.mem_cons.mp h with h | h
      · rw [← h]; omega
      · rw [foldr_max (.inr h) fun x hx => hl x (List.mem_cons_of_mem _ hx)]; omega
end Bs
namespace Pf
open PySem PySem.Spec PyProof.Rows L2 Bs SX Gg
variable {P : Program} {w : World} {K : PySem.W.Frag} {mg : Str → Option Value} {base : Heap}
abbrev N_Lrows : List Str := ["_law_model", "_law_found", "_law_part"]
theorem sc_Lrows : FnScope N_Lrows ["_law_model"] (defScope s_Lrows) := ⟨rfl, rfl, rfl, by decide +kernel, rfl, by decide +kernel, by decide +kernel⟩
theorem c_Lrows (T : Tx K mg) : ∀ n : Nat, C8.Cal P w K mg base (n + 1) "_law_rows" (spRwsM n) []
  | 0 => by
    obtain ⟨fd, F⟩ := f_Lrows T
    exact Cal.mono (cal_none F (g_law_rows T) (F.bindsN (ps := ["_law_model"]) fun _ _ _ _ _ _ us hl => match us, hl with | [_], _ => rfl) fun vs H Q E ⟨G, m, v, _, _, _, h, _⟩ => nomatch h) (Nat.zero_le _)
  | n + 1 => by
    obtain ⟨fd, F⟩ := f_Lrows T
    have c_Lrows := c_Lrows T n
    have c_Ltext := c_Ltext (P := P) (w := w) (base := base) T (n + 1)
    show C8.Cal P w K mg base (n + 1 + 1) _ _ _
    refine mkCal F (g_law_rows T) (F.bindsN fun _ _ _ _ _ _ us hl => match us, hl with | [_], _ => rfl) .nil sc_Lrows (fun vs H Q E h => ?_) (fun cdv A outer s H vs Q E hr h => ?_)
    · obtain ⟨G, m, v, rfl, _⟩ := h
      rfl
    obtain ⟨G, m, v, rfl, hG, hm, hw, hrc, q⟩ := h
    have sl : sizeLine = 16777216 := rfl
    have hm0 := hm
    have hw0 := hw
    cases hw with
    | @mk n so w ts b h2 hs =>
    obtain ⟨a, p, pv', rfl, ha, hp, hts⟩ := hm.parts
    rw [rws_mk] at q
    rw [rc_mk] at hrc
    refine ⟨_, (pss_cons (ps_if (pt_cmpR op_eq (pe_ix (ix_tupK (K := K) rfl) (pv 0) pe_int (fun _ _ => rfl)) pe_str (nomark _)) (pss_one (ps_ret (pe_lst (pa_cons (C8.pe_c c_Ltext hr (by first | decide | omega) rfl (pa_cons (pv 0) pa_nil)) pa_nil)))) pss_nil)
    (pss_cons (ps_set (i := 1) sc_Lrows.nd rfl (Or.inl rfl) (pe_lst pa_nil))
    (pss_cons (ps_for PassesOwn.never rfl (pi_tupK (K := K) rfl (pe_ix (ix_tupK (K := K) rfl) (pv 0) pe_int (fun _ _ => rfl))) (pg_name (i := 2) sc_Lrows.nd rfl (Or.inl rfl)) (pss_one (ps_set (i := 1) sc_Lrows.nd rfl (Or.inl rfl) (pe_op op_cat (pv 1) (C8.pe_c c_Lrows hr (by first | decide | omega) rfl (pa_cons (pv 2) pa_nil))))))
    (pss_one (ps_ret (pv 1)))))), ?_⟩
    refine ⟨_, rfl, a, _, 0, _, rfl, rfl, SqT.of (hG _ _ ha), atI_nat (j := 0) rfl, rfl, _, rfl, ?_⟩
    have e1 : decide (V.str so.s = V.str (Str.ofString "row")) = decide (so = .row) := so_row so
    refine ite2 (fun c => ?_) (fun c => ?_)
    · have c' : so = .row := of_decide_eq_true (e1 ▸ c)
      rw [if_pos c'] at q
      refine ⟨_, rfl, G, _, _, rfl, hG, hm0, hw0, fun H1 s1 => ⟨by show 1 ≤ sizeLine; decide, fun l hl => ?_⟩⟩
      exact q _ l (s1.loc (s1.free hl) (s1.gh.free hl)) (s1.gh.free hl) upd_same
    · have c' : so ≠ .row := fun z => c (e1.symm ▸ decide_eq_true z)
      rw [if_neg c'] at q hrc
      refine ⟨by show 0 ≤ sizeLine; decide, fun D0 hD0 => ?_⟩
      have s0 := (Step.refl (p := none) hG).loc (o := .lst []) hD0 (hG.free hD0)
      refine ⟨_, rfl, a, _, 2, _, rfl, rfl, SqT.of (s0.gh _ _ ha), atI_nat (j := 2) rfl, p, rfl, ⟨_, SqT.of (s0.gh _ _ hp)⟩, ?_⟩
      refine for_tup (K := K) (a := p) (xs := pv') (fun i σ H' => ∃ (D : Addr) (o : Option V), σ = [some (.ref a), some (.ref D), o] ∧ Step none G H G H' ∧ G D = none ∧ H' D = some (.lst (((ts.take i).map rws).flatten.map V.str))) ⟨D0, none, rfl, s0, hG.free hD0, upd_same⟩ ?_ ?_ ?_
      · rintro i σ H' _ ⟨D, o, rfl, st, _⟩
        exact SqT.of (st.gh _ _ hp)
      · rintro i x σ H' hx ⟨D, o, rfl, st, gD, hL⟩
        obtain ⟨t, ht, mt⟩ := get_pair hts.len hx
        have h1 := sum_take (ts := ts) (i + 1)
        rw [rws_take ht, List.length_append] at h1
        refine ⟨_, rfl, _, rfl, G, t, x, rfl, st.gh, hts.get hx ht, hs t mt, by have := rc_part mt; omega, fun H2 l s2 gl hl => ?_⟩
        refine ⟨D, l, _, _, rfl, rfl, s2.same _ _ hL, hl, by rw [List.length_map, List.length_map]; omega, fun p2 hp2 => ?_⟩
        have s3 := st.trans s2
        refine ⟨p2, _, rfl, s3.loc (s3.free hp2) (s3.gh.free hp2), s3.gh.free hp2, ?_⟩
        rw [upd_same, rws_take ht, List.map_append]
      rintro σ H' ⟨D, o, rfl, st, gD, hL⟩
      rw [hts.len, List.take_length] at hL
      exact ⟨_, rfl, q H' D st gD hL⟩
abbrev N_Ldepth : List Str := ["_law_model", "_law_part"]
theorem sc_Ldepth : FnScope N_Ldepth ["_law_model"] (defScope s_Ldepth) := ⟨rfl, rfl, rfl, by decide +kernel, rfl, by decide +kernel, by decide +kernel⟩
theorem c_Ldepth (T : Tx K mg) : ∀ n : Nat, C8.Cal P w K mg base n "_law_depth" (spDepM n) []
  | 0 => by
    obtain ⟨fd, F⟩ := f_Ldepth T
    exact cal_none F (g_law_depth T) (F.bindsN (ps := ["_law_model"]) fun _ _ _ _ _ _ us hl => match us, hl with | [_], _ => rfl) fun vs H Q E ⟨G, m, v, _, _, _, h, _⟩ => nomatch h
  | n + 1 => by
    obtain ⟨fd, F⟩ := f_Ldepth T
    have c_Ldepth := c_Ldepth T n
    refine mkCal F (g_law_depth T) (F.bindsN fun _ _ _ _ _ _ us hl => match us, hl with | [_], _ => rfl) .nil sc_Ldepth (fun vs H Q E h => ?_) (fun cdv A outer s H vs Q E hr h => ?_)
    · obtain ⟨G, m, v, rfl, _⟩ := h
      rfl
    obtain ⟨G, m, v, rfl, hG, hm, hw, q⟩ := h
    have sl : sizeLine = 16777216 := rfl
    cases hw with
    | @mk n so w ts b h2 hs =>
    obtain ⟨a, p, pv', rfl, ha, hp, hts⟩ := hm.parts
    have t3 := h2.sh.t3
    refine ⟨_, (pss_one (ps_ret (pe_op op_add pe_int (pe_callB (cr_max rfl) (by rfl) (z_max T) boot_max (pa_cons (pe_op op_cat (pe_lst (pa_cons pe_int pa_nil)) (pe_lc (own := [("_law_part", 1)]) rfl sc_Ldepth.nd (pi_tupK (K := K) rfl (pe_ix (ix_tupK (K := K) rfl) (pv 0) pe_int (fun _ _ => rfl))) (blkOk_by (N := N_Ldepth) (sc := defScope s_Ldepth) (by decide +kernel)) (fun _ _ _ _ _ => (pg_name (i := 1) sc_Ldepth.nd rfl (Or.inl rfl))) (fun _ _ _ _ _ => pts_nil) (fun _ _ _ _ _ => (C8.pe_c c_Ldepth hr (by first | decide | omega) rfl (pa_cons (pv 1) pa_nil))))) pa_nil))))), ?_⟩
    refine ⟨by show 1 ≤ sizeLine; decide, fun l0 h0 => ?_⟩
    have s0 := (Step.refl (p := none) hG).loc (o := .lst [.int 0]) h0 (hG.free h0)
    refine ⟨_, rfl, a, _, 2, _, rfl, rfl, SqT.of (s0.gh _ _ ha), atI_nat (j := 2) rfl, p, rfl, ⟨_, SqT.of (s0.gh _ _ hp)⟩, fun D hD => ?_⟩
    have gD : G D = none := s0.gh.free hD
    have hl0 : (upd H l0 (.lst [.int 0])) l0 = some (.lst [.int 0]) := upd_same
    have n0 : l0 ≠ D := fun e => by rw [← e, hl0] at hD; cases hD
    refine lc_tup (K := K) (a := p) (xs := pv') (fun i H' => Step none G (upd H l0 (.lst [.int 0])) G H' ∧ H' D = some (.lst ((ts.take i).map fun t => V.int (t.dep : Nat)))) ⟨(Step.refl s0.gh).loc hD gD, upd_same⟩ ?_ ?_ ?_
    · rintro i H' _ ⟨st, _⟩
      exact SqT.of (st.gh _ _ hp)
    · rintro i x H' hx ⟨st, hL⟩
      obtain ⟨t, ht, mt⟩ := get_pair hts.len hx
      refine ⟨rfl, ?_⟩
      unfold tYes
      refine iteT ⟨_, rfl, G, t, x, rfl, st.gh, hts.get hx ht, hs t mt, fun H2 s2 => ⟨_, s2.same _ _ hL, ?_, (st.trans s2).loc hD gD, ?_⟩⟩
      · rw [List.length_map, List.length_take]; omega
      · rw [upd_same, take_one ht, List.map_append]; rfl
    rintro H' ⟨st, hL⟩
    rw [hts.len, List.take_length] at hL
    refine ⟨l0, D, _, _, rfl, rfl, st.same _ _ hl0, hL, by rw [List.length_map]; show 1 + ts.length ≤ sizeLine; omega, fun p2 hp2 => ?_⟩
    have s3 := s0.trans st
    have s4 := s3.loc (o := .lst ([V.int 0] ++ ts.map fun t => V.int (t.dep : Nat))) (s3.free hp2) (s3.gh.free hp2)
    have e2 : ([V.int 0] ++ ts.map fun t => V.int (t.dep : Nat)) = ((0 : Int) :: ts.map fun t => ((t.dep : Nat) : Int)).map V.int := by
      rw [List.map_cons, List.map_map]; rfl
    refine ⟨p2, _, rfl, by rw [← e2]; exact SqL.of upd_same, by simp, fun m h1 h2' => ?_⟩
    have hm : m = (((ts.map Mt.dep).foldr max 0 : Nat) : Int) := by
      obtain ⟨k, rfl⟩ : ∃ k : Nat, m = (k : Nat) := by
        rcases List.mem_cons.mp h1 with e | e
        · exact ⟨0, e⟩
        · obtain ⟨t, _, e⟩ := List.mem_map.mp e
          exact ⟨t.dep, e.symm⟩
      rw [foldr_max (m := k) ?_ ?_]
      · rcases List.mem_cons.mp h1 with e | e
        · exact .inl (by omega)
        · obtain ⟨t, ht, e⟩ := List.mem_map.mp e
          exact .inr (List.mem_map.mpr ⟨t, ht, by omega⟩)
      · intro x hx
        obtain ⟨t, ht, rfl⟩ := List.mem_map.mp hx
        have := h2' _ (List.mem_cons_of_mem _ (List.mem_map.mpr ⟨t, ht, rfl⟩))
        omega
    refine ⟨1, m, rfl, rfl, ?_⟩
    have e3 : (1 : Int) + m = ((Mt.mk so w ts b).dep : Nat) := by rw [hm, Mt.dep_mk]; omega
    show Q (.int (1 + m)) _
    rw [e3]
    exact q _ s4
end Pf
namespace Bs
open PySem PySem.Spec PyProof.Rows L2 SX Gg
def spRight (C : Addr) : Sp := fun vs H Q _ => ∃ (G : Hp) (m : Mt) (v v' : V), vs = [v, v'] ∧ Same G H ∧ TAt C G v m ∧ MAt G v' m ∧ IsTerm m ∧ rc m ≤ 1000 ∧ ∀ H' : Hp, Step none G H G H' → Q (.bl true) H'
theorem Step.back {p : Option Addr} {G H G1 H1 : Hp} (s : Step p G H G1 H1) : Step p G H G H1 := ⟨Same.refl G, fun b o e => s.gh _ _ (s.gg _ _ e), fun b hb => .inl hb, s.kp, s.pp⟩
theorem word_ok {w : List Nat} (h : ∀ c ∈ w, c < 128) : PyData.strOk (S w) = true := by
  unfold PyData.strOk
  rw [Array.all_eq_true]
  intro i hi
  have hi : i < w.length := by simpa [S] using hi
  have := h (w[i]) (List.getElem_mem hi)
  simp only [S, List.getElem_toArray, decide_eq_true_eq]
  omega
theorem sgn_lt {c : Nat} (h : sgn c) : c < 128 := by
  unfold sgn at h
  try unfold ltr at h
  omega
theorem rws_ok {m : Mt} (h : Gd m) (hw : Wt 12 m) : ∀ k ∈ rws m, PyData.strOk k = true := fun k hk => by
  obtain ⟨u, hu, e1, e2⟩ := (mem_rws hw k).mp hk
  have hg := sub_gd m h u hu
  have hr : IsRow u := by
    cases hg with
    | row h => exact h
    | place h => cases e1
    | zero => cases e1
    | val h => cases h <;> cases e1
    | rule h h1 hs => cases e1
  obtain ⟨w, b, rfl, hn, et⟩ := row_txt hr
  rw [← e2, et]
  refine word_ok fun c hc => ?_
  rcases List.mem_append.mp hc with z | z
  · exact sgn_lt (hn.nm.sg c z)
  · cases b
    · cases z
    · have e3 : c = 39 := by simpa using z
      omega
theorem lay_all {ys : List Str} (h : ∀ k ∈ ys, PyData.strOk k = true) : SeqAt.shaped (.list (ys.map PyData.str)) = true := by
  have h1 : PyData.canLayAll0 (ys.map PyData.str) = true := by
    induction ys with
    | nil => rfl
    | cons a r ih =>
      rw [List.map_cons]
      unfold PyData.canLayAll0
      rw [ih fun k hk => h k (List.mem_cons_of_mem _ hk), Bool.and_true]
      unfold PyData.canLay0
      exact h a List.mem_cons_self
  have h2 : ∀ ys : List Str, PyData.depthAll (ys.map PyData.str) = 0 := fun ys => by
    induction ys with
    | nil => rfl
    | cons a r ih =>
      rw [List.map_cons]
      unfold PyData.depthAll PyData.depth
      rw [ih]; rfl
  unfold SeqAt.shaped
  unfold PyData.canLay0 PyData.depth
  rw [h1, h2]; rfl
theorem dp_all {K : PySem.W.Frag} {H : Hp} : ∀ ys : List Str, DpAll K H (ys.map V.str) (ys.map PyData.str)
  | [] => .nil
  | x :: r => .cons (.str x) (dp_all r)
theorem eqv_one {ys : List Str} (h : ∀ k ∈ ys, PyData.strOk k = true) : PyData.eqv (.list (ys.map PyData.str)) (.list (ys.map PyData.str)) = true := SeqAt.eqv_refl _ (SeqAt.canLay_of_shaped (lay_all h))
end Bs
namespace Pf
open PySem PySem.Spec PyProof.Rows L2 Bs SX Gg
variable {P : Program} {w : World} {K : PySem.W.Frag} {mg : Str → Option Value} {base : Heap}
local macro_rules | `(tactic| walk_at "no") => `(tactic| refine ite2 (fun c => absurd c (by simp)) (fun _ => ?_))
abbrev N_Lright : List Str := ["_law_term_here", "_law_model", "_law_depth_here", "_law_second_here", "_law_due", "_law_told", "_law_text_here"]
theorem sc_Lright : FnScope N_Lright ["_law_term_here", "_law_model"] (defScope s_Lright) := ⟨rfl, rfl, rfl, by decide +kernel, rfl, by decide +kernel, by decide +kernel⟩
theorem c_Lright (T : Tx K mg) : C8.Cal P w K mg base 19 "_law_right" (spRight (CT K)) [] := by
  obtain ⟨fd, F⟩ := f_Lright T
  have c_Lis := c_Lis (P := P) (w := w) (base := base) T 12
  have c_Lsecond := c_Lsecond (P := P) (w := w) (base := base) T 12
  have c_Lrows := c_Lrows (P := P) (w := w) (base := base) T 12
  have c_Ldepth := c_Ldepth (P := P) (w := w) (base := base) T 12
  have t_second := t_second (P := P) (w := w) (base := base) T 12
  have t_row_names := t_row_names (P := P) (w := w) (base := base) T
  obtain ⟨fdd, F_depth, b_depth⟩ := o_depth (P := P) (w := w) (base := base) T
  have cls_depth := cls_Term_ T
  have pp_depth := Hd.propB_ok (ex_2 T)
  have pe_g_list : ∀ {X : Cx} {pos : Pos}, X.mg = mg → Gl X "list" → PE X (.Name "list" pos) (tC (.ty "list")) := fun h1 h2 => pe_bltn h2 (by rw [h1]; exact z_list T) boot_list rfl
  have pe_g_bool : ∀ {X : Cx} {pos : Pos}, X.mg = mg → Gl X "bool" → PE X (.Name "bool" pos) (tC (.ty "bool")) := fun h1 h2 => pe_bltn h2 (by rw [h1]; exact z_bool T) boot_bool rfl
  have pe_g_int : ∀ {X : Cx} {pos : Pos}, X.mg = mg → Gl X "int" → PE X (.Name "int" pos) (tC (.ty "int")) := fun h1 h2 => pe_bltn h2 (by rw [h1]; exact z_int T) boot_int rfl
  have pe_g_str : ∀ {X : Cx} {pos : Pos}, X.mg = mg → Gl X "str" → PE X (.Name "str" pos) (tC (.ty "str")) := fun h1 h2 => pe_bltn h2 (by rw [h1]; exact z_str T) boot_str rfl
  show C8.Cal P w K mg base (18 + 1) _ _ _
  refine mkCal F (g_law_right T) (F.bindsN fun _ _ _ _ _ _ us hl => match us, hl with | [_, _], _ => rfl) .nil sc_Lright (fun vs H Q E h => ?_) (fun cdv A outer s H vs Q E hr h => ?_)
  · obtain ⟨G, m, v, v', rfl, _⟩ := h
    rfl
  obtain ⟨G, m, v, v', rfl, hG, ht, hm, hi, hrc, q⟩ := h
  have sl : sizeLine = 16777216 := rfl
  have C0 := cls_Term_ T
  have w1 := term_wt hi
  have w2 := term_wt hi.sec
  have w3 : Wt 12 (sec (sec m)) := by rw [sec_sec]; exact w2
  obtain ⟨ta, dx, l, so, w, ts, b, rfl, em, hta⟩ := id ht.obj
  refine ⟨_, (pss_cons (ps_set (i := 2) sc_Lright.nd rfl (Or.inl rfl) (pe_prop (E := C8.E0) (pv 0) cls_depth pp_depth F_depth (hr.mono (by decide)) b_depth .nil C8.pass0 rfl))
    (pss_cons (ps_if (PW.pt (pw_or (pt_val (pe_callB (call_isiK' (K := K) rfl) (by rfl) (z_isinstance T) boot_isinstance (pa_cons (pv 2) (pa_cons (pe_g_bool rfl rfl) pa_nil)))) (pw_or (pt_not (pt_val (pe_callB (call_isiK' (K := K) rfl) (by rfl) (z_isinstance T) boot_isinstance (pa_cons (pv 2) (pa_cons (pe_g_int rfl rfl) pa_nil))))) (pw_or1 (pt_cmpR op_ne (pv 2) (C8.pe_c c_Ldepth hr (by first | decide | omega) rfl (pa_cons (pv 1) pa_nil)) (nomark _)))))) (pss_one (ps_ret pe_bl)) pss_nil)
    (pss_cons (ps_set (i := 3) sc_Lright.nd rfl (Or.inl rfl) (C8.pe_mt0 t_second hr (by first | decide | omega) (pv 0)))
    (pss_cons (ps_if (PW.pt (pw_or (pt_not (pt_val (C8.pe_c c_Lis hr (by first | decide | omega) rfl (pa_cons (pv 3) (pa_cons (C8.pe_c c_Lsecond hr (by first | decide | omega) rfl (pa_cons (pv 1) pa_nil)) pa_nil))))) (pw_or1 (pt_not (pt_val (C8.pe_c c_Lis hr (by first | decide | omega) rfl (pa_cons (C8.pe_mt0 t_second hr (by first | decide | omega) (pv 3)) (pa_cons (C8.pe_c c_Lsecond hr (by first | decide | omega) rfl (pa_cons (pv 1) pa_nil)) pa_nil)))))))) (pss_one (ps_ret pe_bl)) pss_nil)
    (pss_cons (ps_set (i := 4) sc_Lright.nd rfl (Or.inl rfl) (pe_sorSet (K := K) rfl rfl (by rfl) (z_sorted T) (by rfl) (z_set T) (C8.pe_c c_Lrows hr (by first | decide | omega) rfl (pa_cons (pv 1) pa_nil))))
    (pss_cons (ps_set (i := 5) sc_Lright.nd rfl (Or.inl rfl) (C8.pe_mt0 t_row_names hr (by first | decide | omega) (pv 0)))
    (pss_cons (ps_if (PW.pt (pw_or (pt_not (pt_val (pe_callB (call_isiK' (K := K) rfl) (by rfl) (z_isinstance T) boot_isinstance (pa_cons (pv 5) (pa_cons (pe_g_list rfl rfl) pa_nil))))) (pw_or (pt_cmpR (op_neD hr.units) (pv 5) (pv 4) (nomark _)) (pw_or1 (pt_not (pt_val (pe_callB (cr_all rfl) (by rfl) (z_all T) boot_all (pa_cons (pe_lc (own := [("_law_text_here", 6)]) rfl sc_Lright.nd (pi_listK (K := K) rfl (pv 5)) (blkOk_by (N := N_Lright) (sc := defScope s_Lright) (by decide +kernel)) (fun _ _ _ _ _ => (pg_name (i := 6) sc_Lright.nd rfl (Or.inl rfl))) (fun _ _ _ _ _ => pts_nil) (fun _ _ _ _ _ => (pe_callB (call_isiK' (K := K) rfl) (by rfl) (z_isinstance T) boot_isinstance (pa_cons (pv 6) (pa_cons (pe_g_str rfl rfl) pa_nil))))) pa_nil)))))))) (pss_one (ps_ret pe_bl)) pss_nil)
    (pss_cons (ps_expr (pe_bm PySem.F.plainAttrs_list PySem.F.slot_list_append PySem.F.type_list_append mt_append (pv 5) (pa_cons pe_str pa_nil)))
    (pss_one (ps_ret (pe_and (pe_cmpR (op_eqD hr.units) (C8.pe_mt0 t_row_names hr (by first | decide | omega) (pv 0)) (pv 4) (nomark _)) (pe_one (C8.pe_c c_Lis hr (by first | decide | omega) rfl (pa_cons (pv 0) (pa_cons (pv 1) pa_nil))))))))))))))), ?_⟩
  have okk := rws_ok hi.gd w1
  refine ⟨_, rfl, ta, dx, _, rfl, hG _ _ hta, ta, dx, _, _, rfl, hG _ _ hta, tf_depth, ?_⟩
  refine ⟨_, rfl, .int (m.dep : Nat), .ty "bool", .type "int", .type "bool", false, rfl, .ty _, .base (.int _), kit_ty (by decide +kernel), false, rfl, ?_⟩
  refine iteF ⟨_, rfl, .int (m.dep : Nat), .ty "int", .type "int", .type "int", true, rfl, .ty _, .base (.int _), kit_ty (by decide +kernel), true, rfl, ?_⟩
  walk_at "no"
  refine ⟨_, rfl, _, rfl, G, m, v', rfl, hG, hm, w1, fun H1 s1 => ⟨rfl, _, rfl, ?_⟩⟩
  walk_at "no"
  refine ⟨_, rfl, ta, dx, _, rfl, s1.gh _ _ hta, tf_none (by decide +kernel), G, m, .ref ta, rfl, s1.gh, ht, w1, w2, fun G2 H2 x s2 hx => ?_⟩
  obtain ⟨xa, xd, xl, xso, xw, xts, xb, ex, _, hxa⟩ := id hx.obj
  cases ex
  have s12 := s1.trans s2
  refine ⟨_, rfl, _, rfl, G2, m, v', rfl, s2.gh, hm.same s2.gg, w1, fun G3 H3 x3 s3 hx3 => ⟨G3, sec m, .ref x, x3, rfl, s3.gh, hx.same s3.gg, hx3, w2, fun H4 s4 => ⟨true, rfl, ?_⟩⟩⟩
  walk_at "no"
  have s14 := (s12.trans s3).trans s4
  refine ⟨_, rfl, x, xd, _, rfl, s4.gh _ _ (s3.gg _ _ hxa), tf_none (by decide +kernel), G3, sec m, .ref x, rfl, s4.gh, hx.same s3.gg, w2, w3, fun G5 H5 y s5 hy => ?_⟩
  rw [sec_sec] at hy
  have s15 := s14.trans s5
  refine ⟨_, rfl, G5, m, v', rfl, s5.gh, hm.same s15.gg, w1, fun G6 H6 x6 s6 hx6 => ⟨G6, sec m, .ref y, x6, rfl, s6.gh, hy.same s6.gg, hx6, w2, fun H7 s7 => ⟨true, rfl, ?_⟩⟩⟩
  walk_at "no"
  have s17 := ((s15.trans s6).trans s7).back
  refine ⟨_, rfl, G, m, v', rfl, s17.gh, hm, w1, hrc, fun H8 lr s8 glr hlr => ⟨lr, rws m, rfl, SqL.of hlr, by rw [rws_len]; unfold scanBound; omega, fun ys p nd hs hmem hp => ?_⟩⟩
  have s18 := s17.trans s8
  have gp := s18.gh.free hp
  have s19 := s18.loc (o := .lst (ys.map V.str)) (s18.free hp) gp
  have hp9 : (upd H8 p (.lst (ys.map V.str))) p = some (.lst (ys.map V.str)) := upd_same
  generalize upd H8 p (.lst (ys.map V.str)) = H9 at s19 hp9 ⊢
  refine ⟨_, rfl, ta, dx, _, rfl, s19.gh _ _ hta, tf_none (by decide +kernel), G, .ref ta, m, rfl, s19.gh, ht, w1, hi.gd, fun H10 l10 zs s10 gl10 hl10 len10 nd10 pw10 mem10 => ?_⟩
  obtain rfl : zs = ys := sorted_one pw10 (sorted_pw hs) nd10 nd fun k => (mem10 k).trans (hmem k).symm
  have hp10 := s10.same _ _ hp9
  have nlp : l10 ≠ p := fun e => by rw [← e, gl10] at hp9; cases hp9
  have gl0 : G l10 = none := s19.gh.free gl10
  have okz : ∀ k ∈ zs, PyData.strOk k = true := fun k hk => okk k ((mem10 k).mp hk)
  have s20 := s19.trans s10
  refine ⟨_, rfl, .ref l10, .ty "list", .type "list", .type "list", true, rfl, .ty _, .base (.lst hl10), kit_ty (by decide +kernel), true, rfl, ?_⟩
  walk_at "no"
  refine ⟨_, rfl, _, rfl, _, _, .lst (SqL.of hl10) (dp_all zs), .lst (SqL.of hp10) (dp_all zs), lay_all okz, lay_all okz, ?_⟩
  rw [eqv_one okz]
  refine ⟨false, rfl, ?_⟩
  walk_at "no"
  refine ⟨_, rfl, l10, rfl, ⟨_, SqL.of hl10⟩, fun D hD => ?_⟩
  have gD : G D = none := s20.gh.free hD
  have nD : l10 ≠ D := fun e => by rw [← e, hl10] at hD; cases hD
  refine lc_list (K := K) (a := l10) (xs := zs.map V.str) (fun i H' => Step none G H G H' ∧ H' l10 = some (.lst (zs.map V.str)) ∧ H' p = some (.lst (zs.map V.str)) ∧ H' D = some (.lst ((List.replicate i true).map V.bl)))
    ⟨s20.loc (s20.free hD) gD, by rw [upd_ne nD]; exact hl10, by rw [upd_ne (fun e => by rw [← e, hp10] at hD; cases hD)]; exact hp10, upd_same⟩ ?_ ?_ ?_
  · rintro i H' _ ⟨_, hl, _⟩
    exact SqL.of hl
  · rintro i z H' hz ⟨st, hl, hp', hL⟩
    obtain ⟨k, hk, rfl⟩ : ∃ k, zs[i]? = some k ∧ V.str k = z := by
      rw [List.getElem?_map] at hz
      cases e : zs[i]? with
      | none => rw [e] at hz; cases hz
      | some k => rw [e] at hz; cases hz; exact ⟨k, rfl, rfl⟩
    have hlt := (List.getElem?_eq_some_iff.mp hk).1
    refine ⟨rfl, ?_⟩
    unfold tYes
    refine iteT ⟨_, rfl, .str k, .ty "str", .type "str", .type "str", true, rfl, .ty _, .base (.str _), kit_ty (by decide +kernel), _, hL, ?_, st.loc (s20.free hD) gD, by rw [upd_ne nD]; exact hl, by rw [upd_ne (fun e => by rw [← e, hp10] at hD; cases hD)]; exact hp', ?_⟩
    · rw [List.length_map, List.length_replicate]; omega
    · rw [upd_same, rep_app]
  rintro H11 ⟨s11, hl11, hp11, hL11⟩
  refine ⟨D, _, rfl, SqL.of hL11, ?_⟩
  rw [all_rep]
  refine ⟨true, rfl, ?_⟩
  walk_at "no"
  refine ⟨_, rfl, .inl ⟨rfl, _, SqL.of hl11⟩, l10, _, _, rfl, rfl, hl11, by rw [List.length_map]; omega, ?_⟩
  have s12' := s11.loc (o := .lst (zs.map V.str ++ [.str (Str.ofString "x")])) (s19.free gl10) gl0
  have hp12 : (upd H11 l10 (.lst (zs.map V.str ++ [.str (Str.ofString "x")]))) p = some (.lst (zs.map V.str)) := by rw [upd_ne (Ne.symm nlp)]; exact hp11
  generalize upd H11 l10 (.lst (zs.map V.str ++ [.str (Str.ofString "x")])) = H12 at s12' hp12 ⊢
  refine ⟨_, rfl, ta, dx, _, rfl, s12'.gh _ _ hta, tf_none (by decide +kernel), G, .ref ta, m, rfl, s12'.gh, ht, w1, hi.gd, fun H13 l13 us s13 gl13 hl13 len13 nd13 pw13 mem13 => ?_⟩
  obtain rfl : us = zs := sorted_one pw13 (sorted_pw hs) nd13 nd fun k => (mem13 k).trans (hmem k).symm
  have hp13 := s13.same _ _ hp12
  refine ⟨_, rfl, _, _, .lst (SqL.of hl13) (dp_all us), .lst (SqL.of hp13) (dp_all us), lay_all okz, lay_all okz, ?_⟩
  rw [eqv_one okz]
  have s14' := s12'.trans s13
  refine ⟨true, rfl, iteT ?_⟩
  exact ⟨_, rfl, _, rfl, G, m, .ref ta, v', rfl, s14'.gh, ht, hm, w1, fun H15 s15 => q H15 (s14'.trans s15)⟩
end Pf
namespace Bs
open PySem PySem.Spec PyProof.Rows L2 SX Gg
def spLaw (K : PySem.W.Frag) : Sp := fun vs H Q _ => ∃ (a : Addr) (ns : List Int), vs = [.ref a] ∧ Fz K H a (ns.map V.int) ∧ ns.length ≤ 63 ∧ ∀ H' : Hp, Q (.bl true) H'
theorem Ps.locD {K : PySem.W.Frag} {G H : Hp} {p q : Addr} {n : Nat} {o : HO} (a : Ps K G H p n) (hq : H q = none) : Ps K G (upd H q o) p n := a.stepN ((Step.refl a.gh).loc hq (a.gh.free hq))
end Bs
namespace Pf
open PySem PySem.Spec PyProof.Rows L2 Bs SX Gg
variable {P : Program} {w : World} {K : PySem.W.Frag} {mg : Str → Option Value} {base : Heap}
abbrev N_law : List Str := ["_law_script", "_law_pen_here", "_law_lot_here", "_law_models", "_law_k", "_law_model"]
theorem sc_law : FnScope N_law ["_law_script"] (defScope s_law) := ⟨rfl, rfl, rfl, by decide +kernel, rfl, by decide +kernel, by decide +kernel⟩
theorem o_law (T : Tx K mg) {fd : FuncData} (F : FunD K d_law.2.name d_law.2.qual d_law.2.params d_law.2.body d_law.2.scope (d_law.2.dvs K) (d_law.2.kws K) (d_law.1 K) fd) : FnOk P w K mg base C8.CX0 21 (d_law.1 K) fd ["_law_script"] (spLaw K) := by
  have c_Lpen := c_Lpen (P := P) (w := w) (base := base) T
  have c_Llot := c_Llot (P := P) (w := w) (base := base) T
  have c_Lterm := c_Lterm (P := P) (w := w) (base := base) T
  have c_Ldraw := c_Ldraw (P := P) (w := w) (base := base) T
  have c_Lbuilt := c_Lbuilt (P := P) (w := w) (base := base) T 12
  have c_Lsecond := c_Lsecond (P := P) (w := w) (base := base) T 12
  have c_Lright := c_Lright (P := P) (w := w) (base := base) T
  refine ok0 (k := 20) F sc_law (fun vs H Q E h => ?_) (fun cdv A outer s H vs Q E hr h => ?_)
  · obtain ⟨a, ns, rfl, _⟩ := h
    rfl
  obtain ⟨a, ns, rfl, hS, h63, q⟩ := h
  have sl : sizeLine = 16777216 := rfl
  have e0 : ("" : Str) = S [] := by decide +kernel
  refine ⟨_, (pss_cons (ps_set (i := 1) sc_law.nd rfl (Or.inr rfl) (C8.pe_c c_Lpen hr (by first | decide | omega) rfl (pa_cons (pv 0) pa_nil)))
    (pss_cons (ps_set (i := 2) sc_law.nd rfl (Or.inr rfl) (C8.pe_c c_Llot hr (by first | decide | omega) rfl (pa_cons (pv 1) pa_nil)))
    (pss_cons (ps_setLc (i := 3) (own := [("_law_k", 4)]) rfl sc_law.nd rfl rfl (sw_true rfl rfl rfl (by decide +kernel)) (pi_range1 (by rfl) (z_range T) (pa_cons pe_int pa_nil)) (blkOk_by (N := N_law) (sc := defScope s_law) (by decide +kernel)) (fun _ _ _ _ _ => (pg_name (i := 4) sc_law.nd rfl (Or.inl rfl))) (fun _ _ _ _ _ => pts_nil) (fun _ _ _ _ _ => (C8.pe_c c_Lterm hr (by first | decide | omega) rfl (pa_cons (pv 1) (pa_cons (pv 2) pa_nil)))))
    (pss_cons (ps_set (i := 3) sc_law.nd rfl (Or.inl rfl) (pe_op op_cat (pv 3) (pe_lst (pa_cons (C8.pe_c c_Lsecond hr (by first | decide | omega) rfl (pa_cons (pe_ix (ix_listK (K := K) rfl) (pv 3) (C8.pe_c c_Ldraw hr (by first | decide | omega) rfl (pa_cons (pv 1) (pa_cons pe_int pa_nil))) (fun _ _ => rfl)) pa_nil)) (pa_cons (pe_tup (pa_cons pe_str (pa_cons pe_str (pa_cons (pe_tup pa_nil) (pa_cons pe_bl pa_nil))))) pa_nil)))))
    (pss_one (ps_ret (pe_callB (cr_all rfl) (by rfl) (z_all T) boot_all (pa_cons (pe_lc (own := [("_law_model", 5)]) rfl sc_law.nd (pi_listK (K := K) rfl (pv 3)) (blkOk_by (N := N_law) (sc := defScope s_law) (by decide +kernel)) (fun _ _ _ _ _ => (pg_name (i := 5) sc_law.nd rfl (Or.inl rfl))) (fun _ _ _ _ _ => pts_nil) (fun _ _ _ _ _ => (C8.pe_c c_Lright hr (by first | decide | omega) rfl (pa_cons (C8.pe_c c_Lbuilt hr (by first | decide | omega) rfl (pa_cons (pv 5) pa_nil)) (pa_cons (pv 5) pa_nil))))) pa_nil)))))))), ?_⟩
  refine ⟨_, rfl, a, ns, rfl, hS, h63, fun p H1 hp k1 P1 => ?_⟩
  have p1 : Ps K (fun _ => none) H1 p 0 := ⟨fun _ _ e => (by cases e), rfl, P1⟩
  refine ⟨_, rfl, (fun _ => none), p, 0, rfl, p1, by omega, fun G2 H2 lo s2 p2 hlo => ?_⟩
  refine ⟨6, rfl, by omega, by omega, fun D hD => ?_⟩
  have hDp : D ≠ p := fun e => p2.pen.ne hD e
  refine lc_range (lo := 0) (n := (6 : Int).toNat) (fun i H' => ∃ (G' : Hp) (vs : List V) (ms : List Mt), Ps K G' H' p (16 + 140 * i) ∧ Lot G' lo ∧ H' D = some (.lst vs) ∧ G' D = none ∧ ms.length = i ∧ All2 (MAt G') vs ms ∧ ∀ m ∈ ms, IsTerm m ∧ rc m ≤ 20)
    ⟨G2, [], [], (p2.locD hD).mono (by omega), hlo, upd_same, p2.gh.free hD, rfl, .nil, fun m hm => by cases hm⟩ ?_ ?_
  · rintro i H' hi ⟨G', vs, ms, ps, hlo, hL, gD, hlen, hall, hgood⟩
    have hi6 : i < 6 := hi
    refine ⟨rfl, ?_⟩
    unfold tYes
    refine iteT ⟨_, rfl, _, rfl, G', p, 16 + 140 * i, lo, rfl, ps, by omega, hlo, fun G1 H1 v m s1 p1 hm hv hrc => ⟨vs, s1.kpc _ _ hL hDp, ?_, G1, vs ++ [v], ms ++ [m], ?_, hlo.same s1.gg, upd_same, ?_, ?_, ?_, ?_⟩⟩
    · have := hall.len; omega
    · exact (p1.put (s1.kpc _ _ hL hDp) (s1.out gD (by rw [hL]; exact fun z => by cases z))).mono (by omega)
    · exact s1.out gD (by rw [hL]; exact fun z => by cases z)
    · rw [List.length_append, hlen]; rfl
    · exact (MAts.same s1.gg hall).app (.cons hm .nil)
    · intro u hu
      rcases List.mem_append.mp hu with hu | hu
      · exact hgood u hu
      · rw [List.mem_singleton.mp hu]; exact ⟨hv, hrc⟩
  rintro H' ⟨G', vs, ms, ps, hlo, hL, gD, hlen, hall, hgood⟩
  have hvl : vs.length = 6 := by rw [hall.len]; exact hlen
  refine ⟨_, rfl, _, rfl, _, rfl, p, _, 6, rfl, ps.pen, by decide, by decide, by decide, fun d H3 k3 P3 a3 b3 => ?_⟩
  obtain ⟨s3, p3⟩ := ps.draw k3 P3
  have hL3 := k3 _ _ hL hDp
  obtain ⟨j, rfl⟩ : ∃ j : Nat, d = (j : Nat) := ⟨d.toNat, by omega⟩
  have hj : j < vs.length := by omega
  have hvj : vs[j]? = some vs[j] := List.getElem?_eq_getElem hj
  obtain ⟨m, hm, mm⟩ := get_pair hall.len hvj
  obtain ⟨im, cm⟩ := hgood m mm
  refine ⟨D, vs, (j : Nat), vs[j], rfl, rfl, SqL.of hL3, atI_nat hvj, G', m, vs[j], rfl, s3.gh, hall.get hvj hm, term_wt im, fun G4 H4 x s4 hx => ?_⟩
  have hL4 := s4.same _ _ hL3
  refine ⟨by show 0 ≤ sizeLine; decide, fun t0 h0 => ⟨by show 4 ≤ sizeLine; decide, fun t h => ?_⟩⟩
  have s5 : Step none G4 H4 (upd G4 t0 (.tup [])) (upd H4 t0 (.tup [])) := (Step.refl s4.gh).new_ h0
  have s6 : Step none (upd G4 t0 (.tup [])) (upd H4 t0 (.tup [])) (upd (upd G4 t0 (.tup [])) t (.tup [.str "zero", .str "", .ref t0, .bl false])) (upd (upd H4 t0 (.tup [])) t (.tup [.str "zero", .str "", .ref t0, .bl false])) := (Step.refl s5.gh).new_ h
  have hz : MAt (upd (upd G4 t0 (.tup [])) t (.tup [.str "zero", .str "", .ref t0, .bl false])) (.ref t) (.mk .zero [] [] false) := .of (p := t0) (vs := []) (by rw [← e0]; exact upd_same) (s6.gg _ _ upd_same) .nil
  have s46 := s5.trans s6
  have hL6 := s46.same _ _ hL4
  have hall6 := MAts.same ((s3.gg.trans s4.gg).trans s46.gg) hall
  have hx6 := hx.same s46.gg
  generalize (upd (upd G4 t0 (.tup [])) t (.tup [.str "zero", .str "", .ref t0, .bl false])) = G6 at *
  generalize (upd (upd H4 t0 (.tup [])) t (.tup [.str "zero", .str "", .ref t0, .bl false])) = H6 at *
  refine ⟨by show 2 ≤ sizeLine; decide, fun l2 hl2 => ?_⟩
  have n2 : D ≠ l2 := fun e => by rw [← e, hL6] at hl2; cases hl2
  refine ⟨D, l2, vs, [x, .ref t], rfl, rfl, by rw [upd_ne n2]; exact hL6, upd_same, by rw [hvl]; show 8 ≤ sizeLine; decide, fun p2 hp2 => ?_⟩
  have g2 : Same G6 (upd H6 l2 (.lst [x, .ref t])) := Same.off s46.gh (s46.gh.free hl2)
  have gp2 := g2.free hp2
  have g3 : Same G6 (upd (upd H6 l2 (.lst [x, .ref t])) p2 (.lst (vs ++ [x, .ref t]))) := Same.off g2 gp2
  have hp3 : (upd (upd H6 l2 (.lst [x, .ref t])) p2 (.lst (vs ++ [x, .ref t]))) p2 = some (.lst (vs ++ [x, .ref t])) := upd_same
  generalize (upd (upd H6 l2 (.lst [x, .ref t])) p2 (.lst (vs ++ [x, .ref t]))) = H7 at g3 hp3 ⊢
  have hall7 : All2 (MAt G6) (vs ++ [x, .ref t]) (ms ++ [sec m, .mk .zero [] [] false]) := hall6.app (.cons hx6 (.cons hz .nil))
  have good7 : ∀ u ∈ ms ++ [sec m, .mk .zero [] [] false], IsTerm u ∧ rc u ≤ 20 := fun u hu => by
    rcases List.mem_append.mp hu with hu | hu
    · exact hgood u hu
    · simp only [List.mem_cons, List.not_mem_nil, or_false] at hu
      rcases hu with rfl | rfl
      · exact ⟨im.sec, by rw [rc_sec]; exact cm⟩
      · exact ⟨.zero, by rw [rc_mk, if_neg (by decide)]; decide⟩
  have len7 : (vs ++ [x, .ref t]).length = 8 := by rw [List.length_append, hvl]; rfl
  generalize vs ++ [x, .ref t] = xs at hall7 hp3 len7 ⊢
  generalize ms ++ [sec m, .mk .zero [] [] false] = us at hall7 good7
  refine ⟨_, rfl, p2, rfl, ⟨_, SqL.of hp3⟩, fun D2 hD2 => ?_⟩
  have gD2 := g3.free hD2
  have nD2 : p2 ≠ D2 := fun e => by rw [← e, hp3] at hD2; cases hD2
  refine lc_list (K := K) (a := p2) (xs := xs) (fun i H' => Step none G6 H7 G6 H' ∧ H' D2 = some (.lst ((List.replicate i true).map V.bl))) ⟨(Step.refl g3).loc hD2 gD2, upd_same⟩ ?_ ?_ ?_
  · rintro i H' _ ⟨st, _⟩
    exact SqL.of (st.same _ _ hp3)
  · rintro i y H' hy ⟨st, hL⟩
    obtain ⟨u, hu, mu⟩ := get_pair hall7.len hy
    obtain ⟨iu, cu⟩ := good7 u mu
    have hyu := hall7.get hy hu
    have hlt := (List.getElem?_eq_some_iff.mp hy).1
    refine ⟨rfl, ?_⟩
    unfold tYes
    refine iteT ⟨_, rfl, G6, u, y, rfl, st.gh, hyu, term_wt iu, fun G8 H8 z s8 hz8 => ⟨_, rfl, G8, u, .ref z, y, rfl, s8.gh, hz8, hyu.same s8.gg, iu, by omega, fun H9 s9 => ⟨_, s9.same _ _ (s8.same _ _ hL), ?_, ?_, ?_⟩⟩⟩
    · rw [List.length_map, List.length_replicate]; omega
    · exact ((st.trans s8).trans s9).back.loc hD2 gD2
    · rw [upd_same, rep_app]
  rintro H10 ⟨s10, hL10⟩
  refine ⟨D2, _, rfl, SqL.of hL10, ?_⟩
  rw [all_rep]
  exact q H10
end Pf
namespace Pf
open PySem PySem.Spec PyProof.Rows L2
abbrev R : PySem.W.OpenRow := PySem.W.OpenLaw.row PySem.Challenge.rw_splitplans_k02_second_stories_of_terms
abbrev hk : PySem.W.Hook := Hd.hook 5 fa ex defs
def ob (s : PySem.W.SharedT) : Hd.Al := Hd.atHeap 5 fa ex defs (HandSHeadRun.getT s)
theorem ob_eq (s : PySem.W.SharedT) : ob s = hk.obs s.abs := Hd.at_eq (HandSHeadRun.getT_eq s)
theorem run (w : World) : HandSHeadRun.RunEq R (PySem.W.view R.prog [44]) hk ob 6000 looseN w := by
  intro os
  kernel_rfl
end Pf
open PySem PySem.W PySem.Calls PyProof.Rows
theorem PySem.Challenge.cw_splitplans_k02_second_stories_of_terms_holds : PySem.Challenge.rw_splitplans_k02_second_stories_of_terms.Holds := by
  w_on; o_law
  refine HandSHeadRun.head_any (r := OpenLaw.row PySem.Challenge.rw_splitplans_k02_second_stories_of_terms) (q := view (OpenLaw.row PySem.Challenge.rw_splitplans_k02_second_stories_of_terms).prog [44]) (H := Pf.hk) (ob := Pf.ob) (M := 6000) (loose := Pf.looseN) (d := HandSHeadRun.topDef (OpenLaw.row PySem.Challenge.rw_splitplans_k02_second_stories_of_terms).prog 44) (kwd := []) Pf.ob_eq
    (by kernel_rfl) (fun s => by kernel_rfl) Pf.run (by kernel_rfl) (by kernel_rfl) (by kernel_rfl) (by rfl) (by first | assumption | decide +kernel) (by decide +kernel) ⟨rfl, rfl, rfl, rfl, rfl, by decide +kernel⟩ ?hw ?hc
  case hw => w_witness2
  case hc =>
    refine L2.walk_ofE (l := PySem.Challenge.rw_splitplans_k02_second_stories_of_terms) (n := 63) (k := 21) (x := "_law_script") (CX := C8.CX0) rfl (by decide) (by kernel_rfl) ⟨rfl, by decide, by decide⟩ ?F (fun _ _ _ _ z => z)
    intro w mg fa h Y G hmg0
    obtain ⟨K, KX, c⟩ := Y
    have hmg : mg ("law" : PySem.Str) = some (.ref fa) := by
      have e : (HandSHeadRun.topDef (OpenLaw.row PySem.Challenge.rw_splitplans_k02_second_stories_of_terms).prog 44).name = ("law" : PySem.Str) := by kernel_rfl
      rw [← e]
      exact hmg0
    have T : Pf.Tx K mg := ⟨c, fun x hx => He.glo_ok KX G (c.fact hx), fun x hx => He.free_ok KX G (c.fact hx), fun x i hx => He.int_ok KX G (c.fact hx), fun x z hx => He.str_ok KX G (c.fact hx)⟩
    have e := hmg.symm.trans (Pf.g_law T)
    cases e
    obtain ⟨fd, F⟩ := Pf.f_law T
    have b := L2.FunD.bindsA (ps := ["_law_script"]) F fun _ _ _ _ _ _ us hl => match us, hl with | [_], _ => rfl
    exact ⟨K, fd, Bs.spLaw K, KX, fun s v => b s [v] rfl, fun H a ns hl hO hS => ⟨a, ns, rfl, Bs.Fz.only hO hS, hl, fun _ => rfl⟩, fun base _ _ => Pf.o_law T F⟩
