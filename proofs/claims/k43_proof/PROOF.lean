import PyProof.Rows.All
import Wide.All
import OpenK.AllK
import Wide.FinOn
import KE.KStateDown
import KE.DataMinMax
import KE.DatumOrd
import HandS.SortKw
import HandS.ForMost
import HandS.Property
import HandS.MakeKw
import HandS.FStr
import HandS.Star
import HandS.OwnEq
import HandS.IsInst
import HandS.Codes
import HandS.More
import HandS.Flow
import HandS.RaiseMore
import HandS.Defaults
import HandS.Style
import HandS.Conv
import HandS.Small
import HandS.Zip
import HandS.Wide
import HandS.Exc
import HandS.WordsExc
import HandS.Head0
import HandS.Head1
import HandS.Head2
import HandS.HeadEnd
import HandS.HeadHook1
import HandS.HeadHook2
import HandS.ClsMeth
import HandS.TupSets
import PySem.Challenge.RW_splitplans_k43_choosers
import KE.KCallOwn
import HandS.MakeKwOnly
import KE.GoesZip
import KE.GoesMore
import HandS.Zip0
import HandS.GenList
import HandS.GenYield
import PyProof.ReprLen
import PyProof.Rows.NestShow
set_option Elab.async false
set_option linter.all false
set_option maxRecDepth 100000
set_option maxHeartbeats 0
/-! ## the head: a Hook that tells every def by its own place in the written part -/
namespace Hd
open PySem PySem.Spec PyProof.Rows L2
abbrev Dn : Type := (PySem.W.Frag → Addr) × He.DefD
def inRec (kind : String) (c m : Str) (K : PySem.W.Frag) : Addr := match PySem.W.recIn K (He.ma K (He.ga K c) m) kind with
  | some (.ref g :: _) => g
  | _ => 0
def dG (x : Str) (st : Stmt) (dfl : List He.Dv) (kw : List (Str × He.Dv)) : Dn := (fun K => He.ga K x, ⟨(x, none), x, x, defArgs st, defBody st, defScope st, dfl, kw⟩)
def dM (c m q : Str) (st : Stmt) (dfl : List He.Dv) (kw : List (Str × He.Dv)) : Dn := (fun K => He.ma K (He.ga K c) m, ⟨(c, some m), m, q, defArgs st, defBody st, defScope st, dfl, kw⟩)
def dR (kind : String) (c m q : Str) (st : Stmt) (dfl : List He.Dv) (kw : List (Str × He.Dv)) : Dn := (fun K => inRec kind c m K, ⟨(c, some m), m, q, defArgs st, defBody st, defScope st, dfl, kw⟩)
/-- the parts of the function object at an address that a def's text fixes -/
def shown (K : PySem.W.Frag) (a : Addr) : He.FnW := (K.lookup a).bind fun o => match o.data with
  | .func f => some (f.name, f.qualname, f.params, f.body, f.scope, f.globals, f.closure, f.builtins)
  | _ => none
def sound (K : PySem.W.Frag) (d : Dn) : Bool := PySem.W.keepIn K (.ref (d.1 K)) && (((K.lookup (d.1 K)).bind fun o => match o.data with
  | .func f => some (PySem.W.codeIn K f.code d.2.qual && (He.dflB K f.defaults (d.2.dvs K) && He.kwdB K f.kwdefaults (d.2.kws K)))
  | _ => none).getD false)
theorem sound_fun {K : PySem.W.Frag} {d : Dn} (e : shown K (d.1 K) = d.2.val) (c : sound K d = true) :
    ∃ fd, FunD K d.2.name d.2.qual d.2.params d.2.body d.2.scope (d.2.dvs K) (d.2.kws K) (d.1 K) fd := by
  obtain ⟨keep, c2⟩ := Bool.and_eq_true_iff.mp c
  unfold shown at e
  rcases look : K.lookup (d.1 K) with _ | ⟨oc, od, dt, osl⟩
  · rw [look] at e
    cases e
  · rw [look] at e c2
    rcases dt with _ | _ | _ | _ | _ | _ | _ | _ | _ | _ | _ | _ | _
    all_goals first
      | (cases e; done)
      | skip
    all_goals
      rename_i fd
      obtain ⟨m1, m2, m3, m4, m5, m6, m7, m8, m9, m10, m11, m12, m13, m14, m15⟩ := fd
      have e' : (some (m1, m2, m3, m4, m5, m6, m7, m15) : He.FnW) = some (d.2.name, d.2.qual, d.2.params, .stmts d.2.body, d.2.scope, mainGlobals, [], builtinsNs) := e
      simp only [Option.some.injEq, Prod.mk.injEq] at e'
      obtain ⟨rfl, rfl, rfl, rfl, rfl, rfl, rfl, rfl⟩ := e'
      have c3 : (PySem.W.codeIn K m13 d.2.qual && (He.dflB K m8 (d.2.dvs K) && He.kwdB K m9 (d.2.kws K))) = true := c2
      obtain ⟨c4, c5⟩ := Bool.and_eq_true_iff.mp c3
      obtain ⟨c6, c7⟩ := Bool.and_eq_true_iff.mp c5
      exact ⟨_, ⟨oc, od, m8, m9, m10, m11, m12, m13, m14, osl, rfl, look, c4, He.dflB_ok c6, He.kwdB_ok c7⟩, keep⟩
/-! more facts, each a Bool over the written part -/
def propB (c f : Str) (K : PySem.W.Frag) : Bool :=
  He.eqO (PySem.W.findIn K (.ref (He.ga K c)) f) (some (some (.ref (He.ma K (He.ga K c) f)))) && (decide (PySem.W.specialIn K (.ref (He.ma K (He.ga K c) f)) "__get__" = some (some (.builtin "property.__get__"))) &&
    (decide (PySem.W.takesIn K (.ref (He.ma K (He.ga K c) f)) = some true) && (match PySem.W.recIn K (He.ma K (He.ga K c) f) "property" with | some (.ref g :: _) => decide (g = inRec "property" c f K) | _ => false)))
theorem propB_ok {c f : Str} {K : PySem.W.Frag} (h : propB c f K = true) : PropOf K (He.ga K c) f (He.ma K (He.ga K c) f) (inRec "property" c f K) := by
  obtain ⟨h1, h⟩ := Bool.and_eq_true_iff.mp h
  obtain ⟨h2, h⟩ := Bool.and_eq_true_iff.mp h
  obtain ⟨h3, h4⟩ := Bool.and_eq_true_iff.mp h
  refine ⟨He.eqO_ok h1, of_decide_eq_true h2, of_decide_eq_true h3, ?_⟩
  cases e : PySem.W.recIn K (He.ma K (He.ga K c) f) "property" with
  | none => rw [e] at h4; cases h4
  | some l =>
    rw [e] at h4
    cases l with
    | nil => cases h4
    | cons v r =>
      cases v with
      | ref g => exact ⟨r, by rw [of_decide_eq_true h4]⟩
      | _ => cases h4
def insB (c : Str) (K : PySem.W.Frag) : Bool := He.eqO (PySem.W.findIn K (.ref (He.ga K c)) "__class__") (some (some (.builtin "object.__class__"))) &&
  (decide (PySem.W.specialIn K (.builtin "object.__class__") "__get__" = some (some (.builtin "getset_descriptor.__get__"))) && (decide (PySem.W.takesIn K (.builtin "object.__class__") = some true) &&
    (decide (PySem.W.mroIn K (He.ga K c) (.type "object") = some true) && (decide (PySem.W.kitOne K (.ref (He.ga K c)) (.ref (He.ga K c)) = some true) && (PySem.W.notFirst K (He.ga K c) (.ref (He.ga K c)))))))
structure InsF (K : PySem.W.Frag) (C : Addr) : Prop where
  ha : PySem.W.findIn K (.ref C) "__class__" = some (some (.builtin "object.__class__"))
  hn : PySem.W.specialIn K (.builtin "object.__class__") "__get__" = some (some (.builtin "getset_descriptor.__get__"))
  htk : PySem.W.takesIn K (.builtin "object.__class__") = some true
  hm : PySem.W.mroIn K C (.type "object") = some true
  me : PySem.W.kitOne K (.ref C) (.ref C) = some true
  nf : PySem.W.notFirst K C (.ref C) = true
theorem insB_ok {c : Str} {K : PySem.W.Frag} (h : insB c K = true) : InsF K (He.ga K c) := by
  obtain ⟨h1, h⟩ := Bool.and_eq_true_iff.mp h
  obtain ⟨h2, h⟩ := Bool.and_eq_true_iff.mp h
  obtain ⟨h3, h⟩ := Bool.and_eq_true_iff.mp h
  obtain ⟨h4, h⟩ := Bool.and_eq_true_iff.mp h
  obtain ⟨h5, h6⟩ := Bool.and_eq_true_iff.mp h
  exact ⟨He.eqO_ok h1, of_decide_eq_true h2, of_decide_eq_true h3, of_decide_eq_true h4, of_decide_eq_true h5, h6⟩
/-- no value of this built-in type is an instance of the class, none goes first -/
def kitsB (c : Str) (ts : List String) (K : PySem.W.Frag) : Bool := ts.all fun t => decide (PySem.W.kitOne K (.type t) (.ref (He.ga K c)) = some false) && PySem.W.notFirst K (He.ga K c) (.type t)
theorem kitsB_ok {c : Str} {ts : List String} {K : PySem.W.Frag} (h : kitsB c ts K = true) {t : String} (ht : t ∈ ts) : PySem.W.kitOne K (.type t) (.ref (He.ga K c)) = some false ∧ PySem.W.notFirst K (He.ga K c) (.type t) = true := by
  obtain ⟨h1, h2⟩ := Bool.and_eq_true_iff.mp (List.all_eq_true.mp h t ht)
  exact ⟨of_decide_eq_true h1, h2⟩
def attB (c m : Str) (v : Value) (K : PySem.W.Frag) : Bool := He.eqO (PySem.W.findIn K (.ref (He.ga K c)) m) (some (some v))
abbrev Al : Type := Bool × List He.FnW
def seenBy (fa : List He.Fa) (ex : PySem.W.Frag → Bool) (fn : List Dn) (K : PySem.W.Frag) : Al := ((fa.all fun f => f.ok K) && (ex K && fn.all fun d => sound K d), fn.map fun d => shown K (d.1 K))
def wanted (fn : List Dn) : Al := (true, fn.map fun d => d.2.val)
def Says (fa : List He.Fa) (ex : PySem.W.Frag → Bool) (fn : List Dn) (K : PySem.W.Frag) : Prop := seenBy fa ex fn K = wanted fn
def atHeap (n : Nat) (fa : List He.Fa) (ex : PySem.W.Frag → Bool) (fn : List Dn) (g : Addr → Option Obj) : Al := seenBy fa ex fn (He.frG g (cStatics :: He.asD g n))
def hook (n : Nat) (fa : List He.Fa) (ex : PySem.W.Frag → Bool) (fn : List Dn) : PySem.W.Hook where
  α := Al
  obs := fun s => atHeap n fa ex fn s.heap.get?
  val := fun _ => wanted fn
  says := fun _ h => ∃ K : PySem.W.Frag, K.In h ∧ Says fa ex fn K
  of := fun _ _ e => ⟨_, He.frG_in, e⟩
  keeps := fun _ _ _ ⟨K, hK, c⟩ k => ⟨K, PySem.W.Frag.In.keeps hK k, c⟩
theorem at_eq {n : Nat} {fa : List He.Fa} {ex : PySem.W.Frag → Bool} {fn : List Dn} {g : Addr → Option Obj} {s : Shared} (h : ∀ a, g a = s.heap.get? a) : atHeap n fa ex fn g = (hook n fa ex fn).obs s := by
  obtain rfl : g = s.heap.get? := funext h
  rfl
section
variable {fa : List He.Fa} {ex : PySem.W.Frag → Bool} {fn : List Dn} {K : PySem.W.Frag}
theorem Says.fst (c : Says fa ex fn K) : ((fa.all fun f => f.ok K) && (ex K && fn.all fun d => sound K d)) = true := congrArg (fun z : Al => z.1) c
theorem Says.fact (c : Says fa ex fn K) {f : He.Fa} (h : f ∈ fa) : f.ok K = true := List.all_eq_true.mp (Bool.and_eq_true_iff.mp c.fst).1 f h
theorem Says.more (c : Says fa ex fn K) : ex K = true := (Bool.and_eq_true_iff.mp (Bool.and_eq_true_iff.mp c.fst).2).1
theorem Says.fun_ (c : Says fa ex fn K) (i : Nat) {d : Dn} (h : fn[i]? = some d) : ∃ fd, FunD K d.2.name d.2.qual d.2.params d.2.body d.2.scope (d.2.dvs K) (d.2.kws K) (d.1 K) fd := by
  have all := List.all_eq_true.mp (Bool.and_eq_true_iff.mp (Bool.and_eq_true_iff.mp c.fst).2).2 d (List.mem_of_getElem? h)
  have e : fn.map (fun d => shown K (d.1 K)) = fn.map fun d => d.2.val := congrArg (fun z : Al => z.2) c
  have e2 : (fn.map fun d => shown K (d.1 K))[i]? = (fn.map fun d => d.2.val)[i]? := by rw [e]
  rw [List.getElem?_map, List.getElem?_map, h] at e2
  exact sound_fun (Option.some.inj e2) all
end
end Hd
namespace Hd
open PySem PySem.Spec PyProof.Rows L2
def cmB (c m : Str) (K : PySem.W.Frag) : Bool := PySem.W.readsIn K (He.ga K c) (.type "type") && (He.eqO (PySem.W.specialIn K (.ref (He.ga K c)) "__getattribute__") (some (some (.builtin "type.__getattribute__"))) &&
  ((match PySem.W.findCls K (.ref (He.ga K c)) (.type "type") m with | some (.get (.builtin a) (.ref p) .none (.ref C)) => decide (a = "classmethod.__get__") && (decide (p = He.ma K (He.ga K c) m) && decide (C = He.ga K c)) | _ => false) &&
    ((match PySem.W.recIn K (He.ma K (He.ga K c) m) "classmethod" with | some (.ref g :: _) => decide (g = inRec "classmethod" c m K) | _ => false) && PySem.W.fnIn K (inRec "classmethod" c m K))))
theorem cmB_ok {c m : Str} {K : PySem.W.Frag} (h : cmB c m K = true) : ClX.CRead K (He.ga K c) (.type "type") ∧ ClX.CMet K (He.ga K c) (.type "type") m (He.ma K (He.ga K c) m) (inRec "classmethod" c m K) := by
  obtain ⟨h1, h⟩ := Bool.and_eq_true_iff.mp h
  obtain ⟨h2, h⟩ := Bool.and_eq_true_iff.mp h
  obtain ⟨h3, h⟩ := Bool.and_eq_true_iff.mp h
  obtain ⟨h4, h5⟩ := Bool.and_eq_true_iff.mp h
  refine ⟨⟨h1, He.eqO_ok h2⟩, ⟨?_, ?_, h5⟩⟩
  · cases e : PySem.W.findCls K (.ref (He.ga K c)) (.type "type") m with
    | none => rw [e] at h3; cases h3
    | some r =>
      rw [e] at h3
      cases r with
      | get a b d f =>
        cases a <;> try (cases h3; done)
        cases b <;> try (cases h3; done)
        cases d <;> try (cases h3; done)
        cases f <;> try (cases h3; done)
        obtain ⟨q1, q⟩ := Bool.and_eq_true_iff.mp h3
        obtain ⟨q2, q3⟩ := Bool.and_eq_true_iff.mp q
        rw [of_decide_eq_true q1, of_decide_eq_true q2, of_decide_eq_true q3]
      | val v => cases h3
  · cases e : PySem.W.recIn K (He.ma K (He.ga K c) m) "classmethod" with
    | none => rw [e] at h4; cases h4
    | some l =>
      rw [e] at h4
      cases l with
      | nil => cases h4
      | cons v r =>
        cases v with
        | ref g => exact ⟨r, by rw [of_decide_eq_true h4]⟩
        | _ => cases h4
end Hd
/-! ## short words over the layer -/
namespace Bs
open PySem PySem.Spec PyProof.Rows L2
variable {P : Program} {w : World} {K : PySem.W.Frag} {mg : Str → Option Value} {base : Heap}
/-- a promise's def, called by its name, no defaults asked -/
theorem mkCal {nm qual x : Str} {par : Arguments} {bd : List Stmt} {sco : Scope} {N ps : List Str} {k : Nat} {sp : Sp} {kws : List (Str × V)} {dvs dvs' : List V} {ds : List Value} {a : Addr} {fd : FuncData}
    (F : FunD K nm qual par bd sco dvs' kws a fd) (hm : mg x = some (.ref a)) (b : Binds K fd ps ds) (v : Vals dvs ds) (S : FnScope N ps sco) (len : ∀ vs H Q E, sp vs H Q E → vs.length = ps.length)
    (body : ∀ (cdv : Value) (A : Around) (outer : List Env) (s : Shared) (H : Hp) (vs : List V) (Q : VK) (E : XK), Room k (A.deeper (envOfC qual sco s.heap.objs.size a cdv)) → sp vs H Q E →
      ∃ t, PSs (cxOf C8.CX0 P w K mg base N qual sco a cdv A outer s H E).nox bd t ∧ t { nx := fun _ H' => Q .non H', rt := Q } (start N vs) H) : C8.Cal P w K mg base (k + 1) x sp dvs :=
  ⟨a, fd, ps, ds, F.ok S len fun cdv A outer s H vs Q E hr h => let ⟨t, h1, h2⟩ := body cdv A outer s H vs Q E hr h
    ⟨t, h1.nox, h2⟩, hm, F.kp, b, v⟩
theorem Cal.mono {j k : Nat} {x : Str} {sp : Sp} {dvs : List V} (c : C8.Cal P w K mg base j x sp dvs) (h : j ≤ k) : C8.Cal P w K mg base k x sp dvs := by
  obtain ⟨f, fd, ps, ds, F, r⟩ := c.ex
  exact ⟨f, fd, ps, ds, F.mono h, r⟩
/-- all is kept but what stands at p -/
def Kp (p : Addr) (H H' : Hp) : Prop := ∀ b o, H b = some o → b ≠ p → H' b = some o
theorem Kp.refl (p : Addr) (H : Hp) : Kp p H H := fun _ _ e _ => e
theorem Kp.trans {p : Addr} {H H1 H2 : Hp} (a : Kp p H H1) (b : Kp p H1 H2) : Kp p H H2 := fun c o e n => b c o (a c o e n) n
theorem Kp.of {p : Addr} {H H' : Hp} (a : Same H H') : Kp p H H' := fun c o e _ => a c o e
theorem Kp.upd {p : Addr} {H : Hp} {o : HO} : Kp p H (upd H p o) := fun c u e n => by rw [upd_ne n]; exact e
theorem Kp.new {p q : Addr} {H H' : Hp} {o : HO} (a : Kp p H H') (hq : H' q = none) : Kp p H (L2.upd H' q o) := fun c u e n => by rw [upd_ne (ne_of_none (a c u e n) hq)]; exact a c u e n
theorem Kp.put {p : Addr} {H H' : Hp} {o : HO} (a : Kp p H H') : Kp p H (L2.upd H' p o) := fun c u e n => by rw [upd_ne n]; exact a c u e n
/-- a step at an address that was free when the count began -/
theorem Kp.loc {p q : Addr} {H H' : Hp} {o : HO} (a : Kp p H H') (hq : H q = none) : Kp p H (L2.upd H' q o) := fun c u e n => by rw [upd_ne (ne_of_none e hq)]; exact a c u e n
theorem Same.new {q : Addr} {H H' : Hp} {o : HO} (a : Same H H') (hq : H' q = none) : Same H (L2.upd H' q o) := fun c u e => by rw [upd_ne (ne_of_none (a c u e) hq)]; exact a c u e
theorem Same.loc {q : Addr} {H H' : Hp} {o : HO} (a : Same H H') (hq : H q = none) : Same H (L2.upd H' q o) := fun c u e => by rw [upd_ne (ne_of_none e hq)]; exact a c u e
theorem SqL.kp {p a : Addr} {H H' : Hp} {xs : List V} (h : SqL K H a xs) (k : Kp p H H') (n : ∀ o, H a = some o → a ≠ p) : SqL K H' a xs := by
  rcases h with (h | ⟨o, h⟩) | h
  · exact .inl (.inl (k a _ h (n _ h)))
  · exact .inl (.inr ⟨o, k a _ h (n _ h)⟩)
  · exact .inr h
theorem SqT.kp {p a : Addr} {H H' : Hp} {xs : List V} (h : SqT K H a xs) (k : Kp p H H') (n : ∀ o, H a = some o → a ≠ p) : SqT K H' a xs := by
  rcases h with (h | ⟨o, h⟩) | h
  · exact .inl (.inl (k a _ h (n _ h)))
  · exact .inl (.inr ⟨o, k a _ h (n _ h)⟩)
  · exact .inr h
/-- the pen's dict: the script, the place of the next cell, what is left of a large one -/
def penD (a : Addr) (i l : Int) : HO := .dK [(Sum.inr "script", .ref a), (Sum.inr "at", .int i), (Sum.inr "left", .int l)]
/-- a locked list: nothing that runs changes it -/
def Fz (K : PySem.W.Frag) (H : Hp) (a : Addr) (xs : List V) : Prop := (∃ o, H a = some (.frz o (.lst xs))) ∨ ∀ H' : Hp, SqL K H' a xs
theorem Fz.sq {H : Hp} {a : Addr} {xs : List V} (h : Fz K H a xs) : SqL K H a xs := by
  rcases h with ⟨o, h⟩ | h
  · exact .inl (.inr ⟨o, h⟩)
  · exact h H
theorem Fz.to {H H' : Hp} {a : Addr} {xs : List V} (h : Fz K H a xs) (k : ∀ o u, H a = some (.frz o u) → H' a = some (.frz o u)) : Fz K H' a xs := by
  rcases h with ⟨o, h⟩ | h
  · exact .inl ⟨o, k _ _ h⟩
  · exact .inr h
theorem Fz.only {H : Hp} {a : Addr} {xs : List V} (o : Only H) (h : SqL K H a xs) : Fz K H a xs := by
  rcases h with (h | h) | h
  · rcases o a with e | ⟨_, _, e⟩
    · rw [e] at h; cases h
    · rw [e] at h; cases h
  · exact .inl h
  · exact .inr fun _ => .inr h
/-- what is at q is no locked thing -/
def Loose (H : Hp) (q : Addr) : Prop := ∀ o u, H q ≠ some (.frz o u)
theorem Loose.nil {H : Hp} {q : Addr} (h : H q = none) : Loose H q := fun o u e => by rw [h] at e; cases e
theorem Loose.lst {H : Hp} {q : Addr} {xs : List V} (h : H q = some (.lst xs)) : Loose H q := fun o u e => by rw [h] at e; cases e
theorem Loose.dK {H : Hp} {q : Addr} {xs : List (Key × V)} (h : H q = some (.dK xs)) : Loose H q := fun o u e => by rw [h] at e; cases e
theorem Fz.upd {H : Hp} {q a : Addr} {xs : List V} {u : HO} (h : Fz K H a xs) (l : Loose H q) : Fz K (L2.upd H q u) a xs :=
  h.to fun o v e => by rw [upd_ne (fun z => l o v (by rw [← z]; exact e))]; exact e
/-- a pen at p that has drawn at most n cells -/
def Pen (K : PySem.W.Frag) (H : Hp) (p : Addr) (n : Nat) : Prop := ∃ (a : Addr) (ns : List Int) (i l : Int), H p = some (penD a i l) ∧ Fz K H a (ns.map V.int) ∧ ns.length ≤ 63 ∧ 0 ≤ i ∧ i ≤ n ∧ 0 ≤ l
theorem Pen.mono {H : Hp} {p : Addr} {n m : Nat} (h : Pen K H p n) (l : n ≤ m) : Pen K H p m := by
  obtain ⟨a, ns, i, q, h1, h2, h3, h4, h5, h6⟩ := h
  exact ⟨a, ns, i, q, h1, h2, h3, h4, by omega, h6⟩
theorem Fz.kpen {H H' : Hp} {p a : Addr} {i l : Int} {b : Addr} {xs : List V} (h : H p = some (penD a i l)) (s : Fz K H b xs) (k : Kp p H H') : Fz K H' b xs :=
  s.to fun o u e => k b _ e (ne_of e h (by intro z; cases z))
/-- other objects are made or changed, the pen is not -/
theorem Pen.same {H H' : Hp} {p : Addr} {n : Nat} (h : Pen K H p n) (k : Same H H') : Pen K H' p n := by
  obtain ⟨a, ns, i, q, h1, h2, h3, h4, h5, h6⟩ := h
  exact ⟨a, ns, i, q, k _ _ h1, h2.to fun _ _ e => k _ _ e, h3, h4, h5, h6⟩
theorem Pen.upd {H : Hp} {p q : Addr} {n : Nat} {o : HO} (h : Pen K H p n) (hq : H q = none) : Pen K (L2.upd H q o) p n := h.same (Same.new (Same.refl H) hq)
theorem Pen.put {H : Hp} {p q : Addr} {n : Nat} {o : HO} {xs : List V} (h : Pen K H p n) (hq : H q = .some (.lst xs)) : Pen K (L2.upd H q o) p n := by
  obtain ⟨a, ns, i, l, h1, h2, h3, h4, h5, h6⟩ := h
  exact ⟨a, ns, i, l, by rw [upd_ne (ne_of h1 hq (by intro z; cases z))]; exact h1, h2.upd (Loose.lst hq), h3, h4, h5, h6⟩
theorem Kp.free {p D : Addr} {H H' : Hp} (k : Kp p H H') (h : H' D = none) (hp : H' p ≠ none) : H D = none := by
  have ne : D ≠ p := fun q => hp (by rw [← q]; exact h)
  cases e : H D with
  | none => rfl
  | some o => rw [k D o e ne] at h; cases h
theorem Pen.ne {H : Hp} {p D : Addr} {n : Nat} (h : Pen K H p n) (e : H D = none) : D ≠ p := by
  obtain ⟨_, _, _, _, hp, _⟩ := h
  exact (ne_of_none hp e).symm
theorem Pen.there {H : Hp} {p : Addr} {n : Nat} (h : Pen K H p n) : H p ≠ none := by
  obtain ⟨_, _, _, _, hp, _⟩ := h
  rw [hp]
  exact fun q => by cases q
theorem Pen.nel {H : Hp} {p D : Addr} {n : Nat} {xs : List V} (h : Pen K H p n) (e : H D = .some (.lst xs)) : D ≠ p := by
  obtain ⟨_, _, _, _, hp, _⟩ := h
  exact ne_of e hp (by intro z; cases z)
theorem Pen.net {H : Hp} {p D : Addr} {n : Nat} {xs : List V} (h : Pen K H p n) (e : H D = .some (.tup xs)) : D ≠ p := by
  obtain ⟨_, _, _, _, hp, _⟩ := h
  exact ne_of e hp (by intro z; cases z)
theorem script_ne : ¬ (("script" : Str) = "at") ∧ ¬ (("script" : Str) = "left") ∧ ¬ (("at" : Str) = "left") ∧ ¬ (("at" : Str) = "script") ∧ ¬ (("left" : Str) = "script") ∧ ¬ (("left" : Str) = "at") := by decide +kernel
theorem atI_of {α : Type} {xs : List α} {k : Int} (h0 : 0 ≤ k) (h1 : k < (xs.length : Nat)) : ∃ v, atI xs k = some v ∧ v ∈ xs ∧ xs[k.toNat]? = some v := by
  have hk : k.toNat < xs.length := by omega
  have ek : k = ((k.toNat : Nat) : Int) := by omega
  refine ⟨xs[k.toNat], ?_, List.getElem_mem hk, List.getElem?_eq_getElem hk⟩
  have z : atI xs ((k.toNat : Nat) : Int) = some xs[k.toNat] := atI_nat (List.getElem?_eq_getElem hk)
  rw [← ek] at z
  exact z
theorem atI_int {ns : List Int} {k : Int} (h0 : 0 ≤ k) (h1 : k < (ns.length : Nat)) : ∃ v : Int, atI (ns.map V.int) k = some (.int v) ∧ v ∈ ns := by
  obtain ⟨x, e, hx, _⟩ := atI_of (xs := ns.map V.int) h0 (by rw [List.length_map]; exact h1)
  obtain ⟨v, hv, rfl⟩ := List.mem_map.mp hx
  exact ⟨v, e, hv⟩
end Bs
namespace Pf
open PySem PySem.Spec PyProof.Rows L2
def top (i : Nat) : Stmt := PySem.Challenge.pw_splitplans_k43_choosers.main.body.getD i (.Pass ⟨0, 0, 0, 0⟩)
abbrev s_First_call : Stmt := inClass (top 1) 0
abbrev s_Last_call : Stmt := inClass (top 2) 0
abbrev s_Drawn_init : Stmt := inClass (top 3) 0
abbrev s_Drawn_call : Stmt := inClass (top 3) 1
abbrev s_Lpen : Stmt := top 5
abbrev s_Ldraw : Stmt := top 6
abbrev s_Lpick : Stmt := top 7
abbrev s_Lmoves : Stmt := top 8
abbrev s_Lnumber : Stmt := top 9
abbrev s_law : Stmt := top 10
def d_First_call : Hd.Dn := Hd.dM "First" "__call__" "First.__call__" s_First_call [] []
def d_Last_call : Hd.Dn := Hd.dM "Last" "__call__" "Last.__call__" s_Last_call [] []
def d_Drawn_init : Hd.Dn := Hd.dM "Drawn" "__init__" "Drawn.__init__" s_Drawn_init [] []
def d_Drawn_call : Hd.Dn := Hd.dM "Drawn" "__call__" "Drawn.__call__" s_Drawn_call [] []
def d_Lpen : Hd.Dn := Hd.dG "_law_pen" s_Lpen [] []
def d_Ldraw : Hd.Dn := Hd.dG "_law_draw" s_Ldraw [] []
def d_Lpick : Hd.Dn := Hd.dG "_law_pick" s_Lpick [] []
def d_Lmoves : Hd.Dn := Hd.dG "_law_moves" s_Lmoves [] []
def d_Lnumber : Hd.Dn := Hd.dG "_law_number" s_Lnumber [] []
def d_law : Hd.Dn := Hd.dG "law" s_law [] []
def defs : List Hd.Dn := [d_First_call, d_Last_call, d_Drawn_init, d_Drawn_call, d_Lpen, d_Ldraw, d_Lpick, d_Lmoves, d_Lnumber, d_law]
def fa : List He.Fa := [.glo "First", .glo "Last", .glo "Drawn", .glo "_law_pen", .glo "_law_draw", .glo "_law_pick", .glo "_law_moves", .glo "_law_number", .glo "law", .free "abs", .free "int", .free "len", .free "list", .free "range", .free "repr", .free "set", .free "sorted", .cls "First", .meth "First" "__call__", .cls "Last", .meth "Last" "__call__", .cls "Drawn", .mkr "Drawn", .noat "Drawn" "_numbers", .noat "Drawn" "_calls", .meth "Drawn" "__init__", .meth "Drawn" "__call__"]
def loose0 : List PySem.Str := ["First", "Last", "Drawn", "_law_pen", "_law_draw", "_law_pick", "_law_moves", "_law_number"]
def looseN : List PySem.Str := loose0

end Pf
namespace Hd
open PySem PySem.Spec PyProof.Rows L2
/-- a class without __init__ -/
def bareB (c : Str) (K : PySem.W.Frag) : Bool := PySem.W.makesIn K (He.ga K c) && (PySem.W.keepIn K (.ref (He.ga K c)) && He.eqO (PySem.W.findIn K (.ref (He.ga K c)) "__init__") (some (some (.builtin "object.__init__"))))
end Hd
namespace Pf
open PySem PySem.Spec PyProof.Rows L2
def ex (K : PySem.W.Frag) : Bool := (Hd.bareB "First" K && (Hd.bareB "Last" K && (PySem.W.fnIn K (He.ma K (He.ga K "First") "__call__") && (PySem.W.fnIn K (He.ma K (He.ga K "Last") "__call__") && (PySem.W.fnIn K (He.ma K (He.ga K "Drawn") "__call__") && true)))))
/-- what the head tells -/
structure Tx (K : PySem.W.Frag) (mg : Str → Option Value) : Prop where
  says : Hd.Says fa ex defs K
  glo : ∀ x, He.Fa.glo x ∈ fa → mg x = some (.ref (He.ga K x))
  fre : ∀ x, He.Fa.free x ∈ fa → mg x = none
  cin : ∀ x i, He.Fa.int x i ∈ fa → ∃ t, mg x = some (.int i t)
  cst : ∀ x z, He.Fa.str x z ∈ fa → ∃ t, mg x = some (.str z t)
section
variable {K : PySem.W.Frag} {mg : Str → Option Value}
theorem g_First (T : Tx K mg) : mg "First" = some (.ref (He.ga K "First")) := T.glo _ (List.mem_of_getElem? (i := 0) rfl)
theorem g_Last (T : Tx K mg) : mg "Last" = some (.ref (He.ga K "Last")) := T.glo _ (List.mem_of_getElem? (i := 1) rfl)
theorem g_Drawn (T : Tx K mg) : mg "Drawn" = some (.ref (He.ga K "Drawn")) := T.glo _ (List.mem_of_getElem? (i := 2) rfl)
theorem g_law_pen (T : Tx K mg) : mg "_law_pen" = some (.ref (He.ga K "_law_pen")) := T.glo _ (List.mem_of_getElem? (i := 3) rfl)
theorem g_law_draw (T : Tx K mg) : mg "_law_draw" = some (.ref (He.ga K "_law_draw")) := T.glo _ (List.mem_of_getElem? (i := 4) rfl)
theorem g_law_pick (T : Tx K mg) : mg "_law_pick" = some (.ref (He.ga K "_law_pick")) := T.glo _ (List.mem_of_getElem? (i := 5) rfl)
theorem g_law_moves (T : Tx K mg) : mg "_law_moves" = some (.ref (He.ga K "_law_moves")) := T.glo _ (List.mem_of_getElem? (i := 6) rfl)
theorem g_law_number (T : Tx K mg) : mg "_law_number" = some (.ref (He.ga K "_law_number")) := T.glo _ (List.mem_of_getElem? (i := 7) rfl)
theorem g_law (T : Tx K mg) : mg "law" = some (.ref (He.ga K "law")) := T.glo _ (List.mem_of_getElem? (i := 8) rfl)
theorem z_abs (T : Tx K mg) : mg "abs" = none := T.fre _ (List.mem_of_getElem? (i := 9) rfl)
theorem z_int (T : Tx K mg) : mg "int" = none := T.fre _ (List.mem_of_getElem? (i := 10) rfl)
theorem z_len (T : Tx K mg) : mg "len" = none := T.fre _ (List.mem_of_getElem? (i := 11) rfl)
theorem z_list (T : Tx K mg) : mg "list" = none := T.fre _ (List.mem_of_getElem? (i := 12) rfl)
theorem z_range (T : Tx K mg) : mg "range" = none := T.fre _ (List.mem_of_getElem? (i := 13) rfl)
theorem z_repr (T : Tx K mg) : mg "repr" = none := T.fre _ (List.mem_of_getElem? (i := 14) rfl)
theorem z_set (T : Tx K mg) : mg "set" = none := T.fre _ (List.mem_of_getElem? (i := 15) rfl)
theorem z_sorted (T : Tx K mg) : mg "sorted" = none := T.fre _ (List.mem_of_getElem? (i := 16) rfl)
theorem cls_First_ (T : Tx K mg) : Cls K (He.ga K "First") := He.cls_ok (T.says.fact (List.mem_of_getElem? (i := 17) rfl))
theorem meth_First_call (T : Tx K mg) : Meth K (He.ga K "First") "__call__" (He.ma K (He.ga K "First") "__call__") := He.meth_ok (T.says.fact (List.mem_of_getElem? (i := 18) rfl))
theorem cls_Last_ (T : Tx K mg) : Cls K (He.ga K "Last") := He.cls_ok (T.says.fact (List.mem_of_getElem? (i := 19) rfl))
theorem meth_Last_call (T : Tx K mg) : Meth K (He.ga K "Last") "__call__" (He.ma K (He.ga K "Last") "__call__") := He.meth_ok (T.says.fact (List.mem_of_getElem? (i := 20) rfl))
theorem cls_Drawn_ (T : Tx K mg) : Cls K (He.ga K "Drawn") := He.cls_ok (T.says.fact (List.mem_of_getElem? (i := 21) rfl))
theorem mkr_Drawn_ (T : Tx K mg) : Mk K (He.ga K "Drawn") (He.ma K (He.ga K "Drawn") "__init__") := He.mkr_ok (T.says.fact (List.mem_of_getElem? (i := 22) rfl))
theorem noat_Drawn_numbers (T : Tx K mg) : NoAttr K (He.ga K "Drawn") "_numbers" := He.noat_ok (T.says.fact (List.mem_of_getElem? (i := 23) rfl))
theorem noat_Drawn_calls (T : Tx K mg) : NoAttr K (He.ga K "Drawn") "_calls" := He.noat_ok (T.says.fact (List.mem_of_getElem? (i := 24) rfl))
theorem meth_Drawn_init (T : Tx K mg) : Meth K (He.ga K "Drawn") "__init__" (He.ma K (He.ga K "Drawn") "__init__") := He.meth_ok (T.says.fact (List.mem_of_getElem? (i := 25) rfl))
theorem meth_Drawn_call (T : Tx K mg) : Meth K (He.ga K "Drawn") "__call__" (He.ma K (He.ga K "Drawn") "__call__") := He.meth_ok (T.says.fact (List.mem_of_getElem? (i := 26) rfl))
theorem exr_0 (T : Tx K mg) : (Hd.bareB "First" K && (Hd.bareB "Last" K && (PySem.W.fnIn K (He.ma K (He.ga K "First") "__call__") && (PySem.W.fnIn K (He.ma K (He.ga K "Last") "__call__") && (PySem.W.fnIn K (He.ma K (He.ga K "Drawn") "__call__") && true))))) = true := T.says.more
theorem ex_0 (T : Tx K mg) : Hd.bareB "First" K = true := (Bool.and_eq_true_iff.mp (exr_0 T)).1
theorem exr_1 (T : Tx K mg) : (Hd.bareB "Last" K && (PySem.W.fnIn K (He.ma K (He.ga K "First") "__call__") && (PySem.W.fnIn K (He.ma K (He.ga K "Last") "__call__") && (PySem.W.fnIn K (He.ma K (He.ga K "Drawn") "__call__") && true)))) = true := (Bool.and_eq_true_iff.mp (exr_0 T)).2
theorem ex_1 (T : Tx K mg) : Hd.bareB "Last" K = true := (Bool.and_eq_true_iff.mp (exr_1 T)).1
theorem exr_2 (T : Tx K mg) : (PySem.W.fnIn K (He.ma K (He.ga K "First") "__call__") && (PySem.W.fnIn K (He.ma K (He.ga K "Last") "__call__") && (PySem.W.fnIn K (He.ma K (He.ga K "Drawn") "__call__") && true))) = true := (Bool.and_eq_true_iff.mp (exr_1 T)).2
theorem ex_2 (T : Tx K mg) : PySem.W.fnIn K (He.ma K (He.ga K "First") "__call__") = true := (Bool.and_eq_true_iff.mp (exr_2 T)).1
theorem exr_3 (T : Tx K mg) : (PySem.W.fnIn K (He.ma K (He.ga K "Last") "__call__") && (PySem.W.fnIn K (He.ma K (He.ga K "Drawn") "__call__") && true)) = true := (Bool.and_eq_true_iff.mp (exr_2 T)).2
theorem ex_3 (T : Tx K mg) : PySem.W.fnIn K (He.ma K (He.ga K "Last") "__call__") = true := (Bool.and_eq_true_iff.mp (exr_3 T)).1
theorem exr_4 (T : Tx K mg) : (PySem.W.fnIn K (He.ma K (He.ga K "Drawn") "__call__") && true) = true := (Bool.and_eq_true_iff.mp (exr_3 T)).2
theorem ex_4 (T : Tx K mg) : PySem.W.fnIn K (He.ma K (He.ga K "Drawn") "__call__") = true := (Bool.and_eq_true_iff.mp (exr_4 T)).1
theorem f_First_call (T : Tx K mg) : ∃ fd, FunD K d_First_call.2.name d_First_call.2.qual d_First_call.2.params d_First_call.2.body d_First_call.2.scope (d_First_call.2.dvs K) (d_First_call.2.kws K) (d_First_call.1 K) fd := T.says.fun_ 0 rfl
theorem f_Last_call (T : Tx K mg) : ∃ fd, FunD K d_Last_call.2.name d_Last_call.2.qual d_Last_call.2.params d_Last_call.2.body d_Last_call.2.scope (d_Last_call.2.dvs K) (d_Last_call.2.kws K) (d_Last_call.1 K) fd := T.says.fun_ 1 rfl
theorem f_Drawn_init (T : Tx K mg) : ∃ fd, FunD K d_Drawn_init.2.name d_Drawn_init.2.qual d_Drawn_init.2.params d_Drawn_init.2.body d_Drawn_init.2.scope (d_Drawn_init.2.dvs K) (d_Drawn_init.2.kws K) (d_Drawn_init.1 K) fd := T.says.fun_ 2 rfl
theorem f_Drawn_call (T : Tx K mg) : ∃ fd, FunD K d_Drawn_call.2.name d_Drawn_call.2.qual d_Drawn_call.2.params d_Drawn_call.2.body d_Drawn_call.2.scope (d_Drawn_call.2.dvs K) (d_Drawn_call.2.kws K) (d_Drawn_call.1 K) fd := T.says.fun_ 3 rfl
theorem f_Lpen (T : Tx K mg) : ∃ fd, FunD K d_Lpen.2.name d_Lpen.2.qual d_Lpen.2.params d_Lpen.2.body d_Lpen.2.scope (d_Lpen.2.dvs K) (d_Lpen.2.kws K) (d_Lpen.1 K) fd := T.says.fun_ 4 rfl
theorem f_Ldraw (T : Tx K mg) : ∃ fd, FunD K d_Ldraw.2.name d_Ldraw.2.qual d_Ldraw.2.params d_Ldraw.2.body d_Ldraw.2.scope (d_Ldraw.2.dvs K) (d_Ldraw.2.kws K) (d_Ldraw.1 K) fd := T.says.fun_ 5 rfl
theorem f_Lpick (T : Tx K mg) : ∃ fd, FunD K d_Lpick.2.name d_Lpick.2.qual d_Lpick.2.params d_Lpick.2.body d_Lpick.2.scope (d_Lpick.2.dvs K) (d_Lpick.2.kws K) (d_Lpick.1 K) fd := T.says.fun_ 6 rfl
theorem f_Lmoves (T : Tx K mg) : ∃ fd, FunD K d_Lmoves.2.name d_Lmoves.2.qual d_Lmoves.2.params d_Lmoves.2.body d_Lmoves.2.scope (d_Lmoves.2.dvs K) (d_Lmoves.2.kws K) (d_Lmoves.1 K) fd := T.says.fun_ 7 rfl
theorem f_Lnumber (T : Tx K mg) : ∃ fd, FunD K d_Lnumber.2.name d_Lnumber.2.qual d_Lnumber.2.params d_Lnumber.2.body d_Lnumber.2.scope (d_Lnumber.2.dvs K) (d_Lnumber.2.kws K) (d_Lnumber.1 K) fd := T.says.fun_ 8 rfl
theorem f_law (T : Tx K mg) : ∃ fd, FunD K d_law.2.name d_law.2.qual d_law.2.params d_law.2.body d_law.2.scope (d_law.2.dvs K) (d_law.2.kws K) (d_law.1 K) fd := T.says.fun_ 9 rfl
end
end Pf
namespace Bs
open PySem PySem.Spec PyProof.Rows L2
variable {X : Cx}
/-! ### rules of our own -/
/-- f() by its name -/
theorem pe_c0 {k j : Nat} {x : Str} {sp : Sp} {dvs : List V} {p pos : Pos} (c : C8.Cal X.prog X.w X.K X.mg X.base k x sp dvs) (hr : Room j X.A) (hk : k ≤ j) (hg : Gl X x) (hdb : (x == ("__debug__" : Str)) = false := by decide) :
    PE X (.Call (.Name x p) [] [] pos) (fun _ H Q => sp dvs H Q C8.E0) := by
  obtain ⟨f, fd, ps, ds, F, hm, kp, b, d⟩ := c.ex
  exact pe_call0 F (hr.mono hk) hg hm kp b d C8.pass0 hdb
/-- a short text, some times -/
def rRepS : R2 := fun x y H Q => ∃ z k, x = .str z ∧ y = .int k ∧ 0 ≤ k ∧ k ≤ 1000 ∧ z.length ≤ 1000 ∧ Q (.str ⟨(List.replicate k.toNat z.cps.toList).flatten.toArray⟩) H
theorem rep_flat (n : Nat) (c : Array Nat) : (List.replicate n c).foldl (fun x y => x ++ y) #[] = (List.replicate n c.toList).flatten.toArray := by
  have h : ∀ (n : Nat) (a : Array Nat), (List.replicate n c).foldl (fun x y => x ++ y) a = a ++ (List.replicate n c.toList).flatten.toArray := by
    intro n
    induction n with
    | zero => intro a; simp
    | succ n ih =>
      intro a
      rw [List.replicate_succ, List.foldl_cons, ih, List.replicate_succ, List.flatten_cons, Array.append_assoc]
      refine congrArg (a ++ ·) ?_
      apply Array.ext'
      simp
  rw [h]
  simp
theorem op_rep_str : OpR X (binaryOp .Mult) rRepS := by
  intro pins s σ H x y v u Q I rx ry h
  obtain ⟨z, k, rfl, rfl, h0, h1, hz, q⟩ := h
  obtain ⟨t, rfl⟩ := rx
  obtain ⟨t', rfl⟩ := ry
  have fin : ∀ (c : Str), c = ⟨(List.replicate k.toNat z.cps.toList).flatten.toArray⟩ → ∀ (t : Tok) (tk : Nat), EP X pins σ Q (.str c t) { s with toks := tk } := fun c e t tk => ⟨.str c, H, I.tok _, ⟨_, rfl⟩, by rw [e]; exact q⟩
  refine P.mul_str (by simp; omega) (fun h2 _ => ?_) (fun h2 _ => ?_) ?_
  · have h3 : 0 < k := by omega
    have h4 : (9223372036854775807 : Int) / 1000 ≤ 9223372036854775807 / k := by
      apply Int.le_ediv_of_mul_le h3
      omega
    have : (2 : Int) ^ 63 - 1 = 9223372036854775807 := by decide
    rw [this]
    omega
  · have h3 : z.length * k.toNat ≤ 1000 * 1000 := Nat.mul_le_mul hz (by omega)
    show decide (_ > sizeLine) = false
    exact decide_eq_false (by have : sizeLine = 16777216 := rfl; omega)
  · split
    · rename_i h2
      have e : k = 0 := by omega
      subst e
      refine ⟨by decide, fin _ ?_ _ _⟩
      simp [Str.empty]
    · split
      · rename_i h2 h3
        refine fin z ?_ t s.toks
        simp only [Bool.or_eq_true, beq_iff_eq] at h3
        rcases h3 with h3 | h3
        · subst h3
          apply TL.ext_tl
          simp [TL.tl]
        · have e : z.cps = #[] := Array.size_eq_zero_iff.mp h3
          apply TL.ext_tl
          simp [TL.tl, e]
      · rw [rep_flat]
        refine ⟨?_, fin _ rfl _ _⟩
        have h3 : k.toNat * z.length ≤ 1000 * 1000 := Nat.mul_le_mul (by omega) hz
        have h4 : ((List.replicate k.toNat z.cps.toList).flatten.toArray).size = k.toNat * z.length := by simp [Str.length]
        show _ ≤ sizeLine
        have : sizeLine = 16777216 := rfl
        show ((List.replicate k.toNat z.cps.toList).flatten.toArray).size ≤ sizeLine
        omega
end Bs
namespace Bs
open PySem PySem.Spec PyProof.Rows L2
variable {X : Cx} {n k : Nat} {C f : Addr} {fd : FuncData} {ps : List Str}
/-! ### == and != by the class's own __eq__, both answers -/
/-- what the own == promises: D a y r says that the answer is r; the heap stays -/
def spCmp (D : Addr → V → Bool → Hp → Prop) : Sp := fun vs H Q _ => ∃ (a : Addr) (y : V) (r : Bool), vs = [.ref a, y] ∧ D a y r H ∧ Q (.bl r) H
structure OwnE (X : Cx) (n : Nat) (C : Addr) (D : Addr → V → Bool → Hp → Prop) : Prop where
  ex : ∃ (f : Addr) (fd : FuncData) (ps : List Str), FnOk X.prog X.w X.K X.mg X.base C8.CX0 n f fd ps (spCmp D) ∧ PySem.W.findIn X.K (.ref C) "__eq__" = some (some (.ref f)) ∧ PySem.W.isFn X.K (.ref f) = true ∧ Binds X.K fd ps []
  obj : PySem.W.mroIn X.K C (.type "object") = some true
  ne : PySem.W.findIn X.K (.ref C) "__ne__" = some (some (.builtin "object.__ne__"))
theorem own_call {A : Around} {pins : List (Addr × Obj)} {s : Shared} {σ : L2.St} {H : Hp} {a : Addr} {y : V} {v : Value} {r : Bool} {D : Addr → V → Bool → Hp → Prop} {E : Value → Shared → Prop} (F : FnOk X.prog X.w X.K X.mg X.base C8.CX0 n f fd ps (spCmp D)) (hb : Binds X.K fd ps [])
    (hr : Room n A) (hf : A.frames = X.A.frames) (I : Inv X pins σ H s) (ry : RelV y v) (d : D a y r H) : wpAny (model X.prog X.w) A (call (.ref f) [.ref a, v]) (fun u s' => u = .bool r ∧ Inv X pins σ H s') E s := by
  have hsp : spCmp D [.ref a, y] H (fun v H' => v = .bl r ∧ H' = H) C8.E0 := ⟨a, y, r, rfl, d, rfl, rfl⟩
  have e0 : Env0 X.prog X.w X.K X.mg X.base A X.stack s H := by
    have e := I.env0
    exact ⟨by rw [hf]; exact e.frames, e.mod, e.bs, e.bsz, e.funs, e.frf, e.hok, e.bare⟩
  have hl := F.len _ _ _ _ hsp
  have r2 : Vals [V.ref a, y] [Value.ref a, v] := .cons rfl (.cons ry .nil)
  refine wpAny_call (codeAny_mono (F.run A X.stack s H ⟨[.ref a, v], []⟩ [.ref a, v] [.ref a, y] _ C8.E0 hr e0 (by
    have := hb s [.ref a, v] I.kIn (by simpa using hl)
    simpa using this) r2 hsp) fun r s' hq => ?_)
  cases r with
  | error e => exact hq.elim
  | ok fl =>
    cases fl with
    | ret w =>
      obtain ⟨z, H', I', rz, ez, ex⟩ := I.after hq
      subst ez ex
      cases rz
      exact ⟨rfl, I'⟩
    | next => exact False.elim hq
    | brk => exact False.elim hq
    | cont => exact False.elim hq
def rEqO (K : PySem.W.Frag) (C : Addr) (D : Addr → V → Bool → Hp → Prop) (g : Bool → Bool) : R2 := fun x y H Q => ∃ (a dx : Addr) (fs : List (Str × V)) (t : Value) (r : Bool), x = .ref a ∧ H a = some (.ins C dx fs) ∧ TyX K H y t ∧ PySem.W.notFirst K C t = true ∧ D a y r H ∧ Q (.bl (g r)) H
theorem op_eqO {D : Addr → V → Bool → Hp → Prop} (O : OwnE X n C D) (hr : Room n X.A) : OpR X (compareOp .Eq) (rEqO X.K C D id) := by
  intro pins s σ H x y v u Q I rx ry h
  obtain ⟨a, dx, fs, t, r, rfl, ha, ty, nf, d, q⟩ := h
  obtain ⟨f, fd, ps, F, hs, hf, hb⟩ := O.ex
  cases rx
  obtain ⟨mA, J, _⟩ := ins_get I.hok ha
  obtain ⟨od, J, _⟩ := J.look
  obtain ⟨m, hF⟩ := I.fr
  obtain ⟨P, kx, hP, _⟩ := kit_of I ry ty
  refine PySem.W.cmp_ofEq (PySem.W.cmp_K (op := .Eq) (tb := t) hr.units0 hF I.ok.mod.kin J (kx.ty _ _ I.kIn hP) nf hs hf ?_)
  refine wpAny_mono (own_call F hb hr rfl I ry d) (fun u s' ⟨eu, I'⟩ => ?_) fun _ _ x => x
  subst eu
  exact ⟨.bl r, H, I', rfl, q⟩
theorem op_neO {D : Addr → V → Bool → Hp → Prop} (O : OwnE X n C D) (hr : Room (n + 1) X.A) : OpR X (compareOp .NotEq) (rEqO X.K C D not) := by
  intro pins s σ H x y v u Q I rx ry h
  obtain ⟨a, dx, fs, t, r, rfl, ha, ty, nf, d, q⟩ := h
  obtain ⟨f, fd, ps, F, hs, hf, hb⟩ := O.ex
  cases rx
  obtain ⟨mA, J, _⟩ := ins_get I.hok ha
  obtain ⟨od, J, _⟩ := J.look
  obtain ⟨P, kx, hP, _⟩ := kit_of I ry ty
  have K0 : X.K.In s.heap := I.kIn
  have tl : PySem.W.Looks (model X.prog X.w) s.heap (typeOf u) t := kx.ty _ _ K0 hP
  have ifb : ∀ (Q' : Option Value → Shared → Prop), (∀ s', Inv X pins σ H s' → Q' (some (.bool r)) s') → wpAny (model X.prog X.w) X.A.in1 (callSpecialIfBound? (.ref a) "__eq__" [u]) Q' X.xe s := fun Q' hq =>
    PySem.W.ifBound_K K0 J hs hf (wpAny_mono (own_call F hb hr.in1 rfl I ry d) (fun v s' ⟨e, I'⟩ => by subst e; exact hq s' I') fun _ _ x => x)
  have hu := hr.in1.units0
  have body : ∀ (Q' : Fin → Shared → Prop), (∀ s', Inv X pins σ H s' → Q' (.done (.ret (.bool (!r)))) s') → wpAny (model X.prog X.w) X.A.in1 (Builtin.«object.__ne__» ⟨[.ref a, u], []⟩) Q' X.xe s := fun Q' hq => by
    unfold Builtin.«object.__ne__»
    repeat (first | with_reducible refine wpAny_cRoomFor hu ?_ | with_reducible refine wpAny_bind (ifb _ fun s' I' => ?_) | wp_step)
    exact hq s' I'
  have ifn : ∀ (Q' : Option Value → Shared → Prop), (∀ s', Inv X pins σ H s' → Q' (some (.bool (!r))) s') → wpAny (model X.prog X.w) X.A (callSpecialIfBound? (.ref a) "__ne__" [u]) Q' X.xe s := fun Q' hq => by
    have cl : ∀ (Q2 : Value → Shared → Prop), (∀ s', Inv X pins σ H s' → Q2 (.bool (!r)) s') → wpAny (model X.prog X.w) X.A (call (.builtin "object.__ne__") [.ref a, u]) Q2 X.xe s := fun Q2 h2 =>
      wpAny_call (codeAny_call_builtin PySem.F.cmp_object.ne.plain PySem.F.cmpEntry_ne (PySem.W.check_slot PySem.F.cmpKind_ne PySem.F.cmpSplit_ne (J.type.andThen (PySem.W.looks_mroIn K0 O.obj)) (PySem.F.cmpArgs_ne _ _) (body _ fun s' I' => h2 s' I')))
    have fin : wpAny (model X.prog X.w) X.A (call (.builtin "object.__ne__") ([.ref a] ++ [u]) >>= fun v => pure (some v)) Q' X.xe s := wpAny_bind (cl _ fun s' I' => wpAny_pure (hq s' I'))
    simp only [callSpecialIfBound?, bindSpecialIfBound?]
    refine wpAny_holding (wpAny_bind (wpAny_bind (wpAny_bind (J.type.here ((PySem.W.looks_findIn K0 O.ne).here ?_)))))
    refine wpAny_bind (wpAny_askSetting (wpAny_ite ?_))
    split
    · exact wpAny_bind (wpAny_of_eq (PySem.F.cmp_object.ne.bind _) (wpAny_pure (by exact fin)))
    · exact wpAny_tryCatch (wpAny_bind (wpAny_of_eq (PySem.F.cmp_object.ne.bind _) (wpAny_pure (by exact fin))))
  have one : wpAny (model X.prog X.w) X.A (tryCompare (.ref a) "__ne__" u) (fun z s' => z = some (.bool (!r)) ∧ Inv X pins σ H s') X.xe s := by
    unfold tryCompare
    exact wpAny_bind (ifn _ fun s' I' => wpAny_pure ⟨rfl, I'⟩)
  refine PySem.W.cmp_ofNotEq ?_
  unfold richCompare
  simp only [oneThing_ref]
  refine wpAny_holding (wpAny_bind (wpAny_cRoomFor hr.units0 ?_))
  refine wpAny_bind (J.type.here (wpAny_bind (tl.here ?_)))
  split
  · rename_i z
    have e : PySem.W.subIn X.K t (.ref C) = some false := by
      rcases Bool.or_eq_true_iff.mp nf with e | e
      · rw [beq_iff_eq.mp e] at z; simp at z
      · exact beq_iff_eq.mp e
    refine wpAny_bind ((PySem.W.looks_subIn K0 e).here ?_)
    simp only [Bool.false_eq_true, if_false]
    refine wpAny_bind (wpAny_mono one (fun z s' hz => ?_) fun _ _ e => e)
    obtain ⟨rfl, I'⟩ := hz
    exact wpAny_pure ⟨.bl (!r), H, I', rfl, q⟩
  · refine wpAny_bind (wpAny_pure ?_)
    simp only [Bool.false_eq_true, if_false]
    refine wpAny_bind (wpAny_mono one (fun z s' hz => ?_) fun _ _ e => e)
    obtain ⟨rfl, I'⟩ := hz
    exact wpAny_pure ⟨.bl (!r), H, I', rfl, q⟩
end Bs
namespace Bs
open PySem PySem.Spec PyProof.Rows L2
variable {X : Cx} {n k : Nat} {C f : Addr} {fd : FuncData} {ps : List Str}
/-! ### max(ints, default=d) -/
def rMaxD (K : PySem.W.Frag) : List V → List V → Hp → VK → Prop := fun vs zs H Q => ∃ (a : Addr) (ns : List Int) (d : Int), vs = [.ref a] ∧ zs = [.int d] ∧ SqL K H a (ns.map V.int) ∧
  ∀ m : Int, (ns = [] → m = d) → (ns ≠ [] → m ∈ ns ∧ ∀ k ∈ ns, k ≤ m) → Q (.int m) H
def big (y : Int) (ys : List Int) : Int := ys.foldl (fun a z => if decide (a < z) = true then z else a) y
theorem big_ge : ∀ (ys : List Int) (y : Int), y ≤ big y ys ∧ (∀ k ∈ ys, k ≤ big y ys) ∧ (big y ys = y ∨ big y ys ∈ ys)
  | [], y => ⟨Int.le_refl y, (fun k h => by cases h), .inl rfl⟩
  | z :: r, y => by
    have e : big y (z :: r) = big (if decide (y < z) = true then z else y) r := rfl
    obtain ⟨h1, h2, h3⟩ := big_ge r (if decide (y < z) = true then z else y)
    rw [e]
    by_cases c : y < z
    · rw [if_pos (decide_eq_true c)] at h1 h2 h3 ⊢
      refine ⟨by omega, fun k hk => ?_, .inr ?_⟩
      · rcases List.mem_cons.mp hk with q | q
        · rw [q]; exact h1
        · exact h2 k q
      · rcases h3 with q | q
        · rw [q]; exact List.mem_cons_self
        · exact List.mem_cons_of_mem _ q
    · rw [if_neg (by simpa using c)] at h1 h2 h3 ⊢
      refine ⟨h1, fun k hk => ?_, ?_⟩
      · rcases List.mem_cons.mp hk with q | q
        · omega
        · exact h2 k q
      · rcases h3 with q | q
        · exact .inl q
        · exact .inr (List.mem_cons_of_mem _ q)
theorem cr_maxD (hc : X.calm = true) (hu : X.A.units + 1 < cLine) : CallRK X (.builtin "max") ["default"] (rMaxD X.K) := by
  intro pins s σ H xs zs us ws Q I r rz h
  obtain ⟨a, ns, d, rfl, rfl, hs, q⟩ := h
  obtain ⟨its, rv, hl, _⟩ := I.list hs
  obtain ⟨w', ew, rw'⟩ := vals1 rz
  subst ew
  obtain ⟨t, rfl⟩ := rw'
  rw [Vals.ref1 r]
  show wpAny _ _ (call (.builtin "max") [.ref a] [(Str.ofString "default", .int d t)]) _ _ _
  refine PySem.W.max_list_datum_default (α := Int) (xs := ns) (I.ok.hd hc) hl.isList (PySem.W.HoldAll.of_ints (by simpa using rv.ints)) (by show X.A.units + 1 + 0 < cLine; exact hu) (fun e h' tk hk => ?_) fun y ys i v h' tk e hi hv hk => ?_
  · exact ⟨.int d, H, I.kept hk, ⟨_, rfl⟩, q d (fun _ => rfl) fun z => absurd e z⟩
  · obtain ⟨t', rfl⟩ := PySem.W.int_of_holds hv
    have eb : PySem.W.maxOf y ys = big y ys := rfl
    rw [eb]
    obtain ⟨h1, h2, h3⟩ := big_ge ys y
    refine ⟨.int (big y ys), H, I.kept hk, ⟨_, rfl⟩, q _ (fun z => by rw [e] at z; cases z) fun _ => ?_⟩
    rw [e]
    refine ⟨?_, fun k hk => ?_⟩
    · rcases h3 with z | z
      · rw [z]; exact List.mem_cons_self
      · exact List.mem_cons_of_mem _ z
    · rcases List.mem_cons.mp hk with z | z
      · rw [z]; exact h1
      · exact h2 k z
/-! ### str(o) by the class's own __str__ -/
def spStr (D : Addr → Str → Hp → Prop) : Sp := fun vs H Q _ => ∃ (a : Addr) (x : Str), vs = [.ref a] ∧ D a x H ∧ Q (.str x) H
structure OwnS (X : Cx) (n : Nat) (C : Addr) (D : Addr → Str → Hp → Prop) : Prop where
  ex : ∃ (f : Addr) (fd : FuncData) (ps : List Str), FnOk X.prog X.w X.K X.mg X.base C8.CX0 n f fd ps (spStr D) ∧ PySem.W.findIn X.K (.ref C) "__str__" = some (some (.ref f)) ∧ PySem.W.isFn X.K (.ref f) = true ∧ Binds X.K fd ps []
theorem call_strO {D : Addr → Str → Hp → Prop} (O : OwnS X n C D) (hr : Room (n + 2) X.A) : CallR X (.type "str") (fun xs H Q => ∃ (a dx : Addr) (fs : List (Str × V)) (x : Str), xs = [.ref a] ∧ H a = some (.ins C dx fs) ∧ D a x H ∧ Q (.str x) H) := by
  intro pins s σ H xs us Q I r h
  obtain ⟨a, dx, fs, x, rfl, ha, d, q⟩ := h
  obtain ⟨f, fd, ps, F, hs, hf, hb⟩ := O.ex
  obtain ⟨u, rfl, ru⟩ := vals1 r
  cases ru
  obtain ⟨mA, J, _⟩ := ins_get I.hok ha
  obtain ⟨od, J, _⟩ := J.look
  have hsp : spStr D [.ref a] H (fun v H' => v = .str x ∧ H' = H) C8.E0 := ⟨a, x, rfl, d, rfl, rfl⟩
  have e0 : Env0 X.prog X.w X.K X.mg X.base X.A.in1.in1 X.stack s H := by
    have e := I.env0
    exact ⟨e.frames, e.mod, e.bs, e.bsz, e.funs, e.frf, e.hok, e.bare⟩
  have hl := F.len _ _ _ _ hsp
  have r2 : Vals [V.ref a] [Value.ref a] := .cons rfl .nil
  have hr2 : Room n X.A.in1.in1 := hr.in1.in1
  refine PySem.W.kso_call hr2.units0 I.kIn J hs hf (wpAny_call (codeAny_mono (F.run X.A.in1.in1 X.stack s H ⟨[.ref a], []⟩ [.ref a] [.ref a] _ C8.E0 hr2 e0 (by
    have := hb s [.ref a] I.kIn (by simpa using hl)
    simpa using this) r2 hsp) fun r s' hq => ?_))
  cases r with
  | error e => exact hq.elim
  | ok fl =>
    cases fl with
    | ret w =>
      obtain ⟨z, H', I', rz, ez, ex⟩ := I.after hq
      subst ez ex
      obtain ⟨t, rfl⟩ := rz
      exact ⟨.str x, _, I', ⟨t, rfl⟩, q⟩
    | next => exact False.elim hq
    | brk => exact False.elim hq
    | cont => exact False.elim hq
end Bs
namespace Bs
open PySem PySem.Spec PyProof.Rows L2
variable {X : Cx} {K : PySem.W.Frag}
/-! ### rules whose reading names the written part itself -/
theorem pe_fldK {e : Expr} {f : Str} {pos : Pos} {ta : TE} (hK : X.K = K) (he : PE X e ta) (hb : attributeBase e f X.env (eval e X.env) = eval e X.env) : PE X (.Attribute e f pos) (tFld K ta f) := by
  subst hK
  exact pe_fld he hb
theorem ix_listK (hK : X.K = K) : IxR X (rIxL K) := by subst hK; exact ix_list
theorem ix_tupK (hK : X.K = K) : IxR X (rIxT K) := by subst hK; exact ix_tup
def rLenSeq (K : PySem.W.Frag) : List V → Hp → VK → Prop := fun xs H Q => ∃ (p : Addr) (ys : List V), xs = [.ref p] ∧ (SqL K H p ys ∨ SqT K H p ys) ∧ Q (.int (ys.length : Nat)) H
theorem call_len_seqK (hK : X.K = K) : CallR X (.builtin "len") (rLenSeq K) := by subst hK; exact call_len_seq
theorem call_isiK' (hK : X.K = K) : CallR X (.builtin "isinstance") (rIsi K) := by subst hK; exact call_isi
theorem pi_listK {tg l : Expr} {tl : TE} (hK : X.K = K) (hl : PE X l tl) : PI X tg l (iList K tl) := by subst hK; exact pi_list hl
theorem pi_tupK {tg l : Expr} {tl : TE} (hK : X.K = K) (hl : PE X l tl) : PI X tg l (iTup K tl) := by subst hK; exact pi_tup hl
theorem op_in_seqK (hK : X.K = K) : OpR X (compareOp .In) (rIn K false) := by subst hK; exact op_in_seq
/-! ### calls with keywords alone -/
structure CalK (P : Program) (w : World) (K : PySem.W.Frag) (mg : Str → Option Value) (base : Heap) (k : Nat) (x : Str) (sp : Sp) (ks : List Str) (gV : List V → List V) : Prop where
  ex : ∃ (f : Addr) (fd : FuncData) (ps : List Str) (g : List Value → List Value → List Value), FnOk P w K mg base C8.CX0 k f fd ps sp ∧ mg x = some (.ref f) ∧ PySem.W.keepIn K (.ref f) = true ∧ KBn K fd ps 0 ks g (fun _ zs => gV zs)
structure MakK (P : Program) (w : World) (K : PySem.W.Frag) (mg : Str → Option Value) (base : Heap) (k : Nat) (x : Str) (C : Addr) (sp : Sp) (ks : List Str) : Prop where
  ex : ∃ (f : Addr) (fd : FuncData) (ps : List Str) (g : List Value → List Value → List Value), Mk K C f ∧ FnOk P w K mg base C8.CX0 k f fd ps sp ∧ mg x = some (.ref C) ∧ KBn K fd ps 1 ks g (fun vs zs => vs ++ zs)
section
variable {k j : Nat} {x : Str} {sp : Sp} {ks : List Str} {gV : List V → List V} {p pos : Pos} {kws : List Keyword} {tk : TA} {C : Addr}
theorem pe_k (c : CalK X.prog X.w X.K X.mg X.base k x sp ks gV) (hr : Room j X.A) (hk : k ≤ j) (hg : Gl X x) (hkw : PK X kws tk)
    (hall : (backToKw pos (keywordEach kws X.env)).all (·.1.isSome) = true := by rfl) (hks : (backToKw pos (keywordEach kws X.env)).filterMap (·.1) = ks := by rfl) (hdb : (x == ("__debug__" : Str)) = false := by decide)
    (hpl : ((backTo pos (starEach [] X.env)).any (·.1) || (backToKw pos (keywordEach kws X.env)).any (·.1.isNone)) = false := by rfl) :
    PE X (.Call (.Name x p) [] kws pos) (fun σ H Q => tk σ H fun zs H1 => zs.length = ks.length ∧ sp (gV zs) H1 Q C8.E0) := by
  obtain ⟨f, fd, ps, g, F, hm, kp, hb⟩ := c.ex
  refine ⟨fun pins s σ H Q I h => ?_⟩
  refine wpAny_Call_Name_kw (ld_glob I hg hm ?_ hdb)
  refine PySem.W.callWith_KW0 (h₀ := X.base) I.ok.mod.kin kp hall ?_ hpl
  refine thn (hkw.run pos pins s σ H _ I h) fun ws s2 ⟨zs, H2, I2, rz, l2, q2⟩ => ⟨I2.kIn, ?_⟩
  rw [hks]
  exact run_fnN (us := []) (vs := []) F (hr.mono hk) hb C8.pass0 I2 .nil rz rfl l2 q2
theorem pe_mkk (c : MakK X.prog X.w X.K X.mg X.base k x C sp ks) (hr : Room j X.A) (hk : k + 1 ≤ j) (hg : Gl X x) (hkw : PK X kws tk)
    (hall : (backToKw pos (keywordEach kws X.env)).all (·.1.isSome) = true := by rfl) (hks : (backToKw pos (keywordEach kws X.env)).filterMap (·.1) = ks := by rfl) (hdb : (x == ("__debug__" : Str)) = false := by decide)
    (hpl : ((backTo pos (starEach [] X.env)).any (·.1) || (backToKw pos (keywordEach kws X.env)).any (·.1.isNone)) = false := by rfl) :
    PE X (.Call (.Name x p) [] kws pos) (tMakeK C 0 ks.length sp (fun vs zs => vs ++ zs) C8.E0 tNil tk) := by
  obtain ⟨f, fd, ps, g, M, F, hm, hb⟩ := c.ex
  exact pe_makeK0 M F (hr.mono hk) hg hm hb C8.pass0 hkw hall hks hdb hpl
end
end Bs
namespace Bs
open PySem PySem.Spec PyProof.Rows L2
/-! ### zip(list, tuple), zip(list, list, list) -/
section mk
variable {prog : Program} {w : World} {A : Around} {E : Value → Shared → Prop} {s : Shared}
abbrev itO (T : String) (l : Addr) : Obj := { cls := .type T, data := .fields #[.ref l, .int 0 0] }
abbrev tuO (vs : Array Value) : Obj := { cls := .type "tuple", data := .seq vs }
abbrev ziO (a b : Addr) : Obj := { cls := .type "zip", data := .fields #[.none, .bool false, .bool false, .ref a, .ref b] }
abbrev zm2 (h : Heap) (l t : Addr) : Heap := (h.push (itO "list_iterator" l)).push (itO "tuple_iterator" t)
abbrev zm3 (h : Heap) (l t : Addr) : Heap := (zm2 h l t).push (tuO #[.ref h.objs.size, .ref (h.push (itO "list_iterator" l)).objs.size])
abbrev zm4 (h : Heap) (l t : Addr) : Heap := (zm3 h l t).push (tuO #[.none, .none])
abbrev zm5 (h : Heap) (l t : Addr) : Heap := (zm4 h l t).push (ziO (zm2 h l t).objs.size (zm3 h l t).objs.size)
theorem meets_zm (l t : Addr) (xs ys : Array Value) : Meets (Builtin.«zip.__new__» ⟨[.type "zip", .ref l, .ref t], []⟩) (fun _ R s => s.heap.IsList l xs ∧ s.heap.IsTuple t ys ∧ R (.ok (.ret (.ref (zm4 s.heap l t).objs.size))) { s with heap := zm5 s.heap l t }) :=
  .of_wp fun prog w A R s ⟨hl, ht, h⟩ => by
    obtain ⟨hp, g, d, tk, os⟩ := s
    have hsub := sub_zip
    have a1 : Heap.IsList (Shared.heap ⟨hp, g, d, tk, os⟩) l xs := hl
    have a2 : Heap.IsTuple (Shared.heap ⟨hp.push (itO "list_iterator" l), g, d, tk, os⟩) t ys := Heap.IsTuple.push ht _
    wp_walk using wpAny_pyIter_list a1, wpAny_pyIter_tuple a2
    exact ⟨_, rfl, h⟩
theorem call_zm {l t : Addr} {xs ys : Array Value} {Q : Value → Shared → Prop} (hl : s.heap.IsList l xs) (ht : s.heap.IsTuple t ys)
    (h : ∀ h' : Heap, IsZip h' (s.heap.objs.size + 4) (s.heap.objs.size + 2) (s.heap.objs.size + 3) .none → IsTupOf2 h' (s.heap.objs.size + 2) (.ref s.heap.objs.size) (.ref (s.heap.objs.size + 1)) → IsTupOf2 h' (s.heap.objs.size + 3) .none .none →
      h'.IsListIter s.heap.objs.size l 0 → h'.IsTupleIter (s.heap.objs.size + 1) t 0 → (∀ c o, s.heap.get? c = some o → h'.get? c = some o) → Q (.ref (s.heap.objs.size + 4)) { s with heap := h' }) : wpAny (model prog w) A (call (.type "zip") [.ref l, .ref t]) Q E s := by
  refine callType_new F.called_zip (by decide) (F.typeCall_zip_2 _ _) (F.newCall_zip_2 _ _) (fun obj => F.args_object_init_3 obj _ _) F.entry_zip_new (meets_zm l t xs ys) ⟨hl, ht, ?_⟩
  have e1 : (s.heap.push (itO "list_iterator" l)).objs.size = s.heap.objs.size + 1 := Heap.size_push ..
  have e2 : (zm2 s.heap l t).objs.size = s.heap.objs.size + 2 := by rw [Heap.size_push, e1]
  have e3 : (zm3 s.heap l t).objs.size = s.heap.objs.size + 3 := by rw [Heap.size_push, e2]
  have e4 : (zm4 s.heap l t).objs.size = s.heap.objs.size + 4 := by rw [Heap.size_push, e3]
  have g5 : (zm5 s.heap l t).get? (zm4 s.heap l t).objs.size = some _ := Heap.get?_push_size _ rfl
  have g4 : (zm5 s.heap l t).get? (zm3 s.heap l t).objs.size = some _ := Heap.get?_push_of_some _ (Heap.get?_push_size _ rfl)
  have g3 : (zm5 s.heap l t).get? (zm2 s.heap l t).objs.size = some _ := Heap.get?_push_of_some _ (Heap.get?_push_of_some _ (Heap.get?_push_size _ rfl))
  have g2 : (zm5 s.heap l t).get? (s.heap.push (itO "list_iterator" l)).objs.size = some _ := Heap.get?_push_of_some _ (Heap.get?_push_of_some _ (Heap.get?_push_of_some _ (Heap.get?_push_size _ rfl)))
  have g1 : (zm5 s.heap l t).get? s.heap.objs.size = some _ := Heap.get?_push_of_some _ (Heap.get?_push_of_some _ (Heap.get?_push_of_some _ (Heap.get?_push_of_some _ (Heap.get?_push_size _ rfl))))
  rw [e4] at g5
  rw [e3] at g4
  rw [e2] at g3
  rw [e1] at g2
  show _ ∧ _
  rw [e4]
  refine ⟨⟨_, g5, rfl⟩, h _ ?_ ?_ g4 ⟨_, g1, rfl, rfl⟩ ⟨_, g2, rfl, rfl⟩ fun c o x => Heap.get?_push_of_some _ (Heap.get?_push_of_some _ (Heap.get?_push_of_some _ (Heap.get?_push_of_some _ (Heap.get?_push_of_some _ x))))⟩
  · rw [e2, e3] at g5; exact g5
  · rw [e1] at g3; exact g3
theorem typeCall_z3 (a b c : Value) : checkTypeCall "zip" ⟨[a, b, c], []⟩ = pure () := by kernel_rfl
theorem newCall_z3 (a b c : Value) : checkBuiltinCall "zip.__new__" ⟨[.type "zip", a, b, c], []⟩ = pure () := by kernel_rfl
theorem argsInit4 (a b c d : Value) : argsOk "object.__init__" ⟨[a, b, c, d], []⟩ := by
  unfold argsOk
  rw [signature?_of (id := "object.__init__") (n := ['_', '_', 't', 'i', 'n', 'i', '_', '_']) (o := ['t', 'c', 'e', 'j', 'b', 'o']) (by kernel_rfl) F.owner_object]
  kernel_rfl
abbrev zt1 (h : Heap) (a : Addr) : Heap := h.push (itO "list_iterator" a)
abbrev zt2 (h : Heap) (a b : Addr) : Heap := (zt1 h a).push (itO "list_iterator" b)
abbrev zt3 (h : Heap) (a b c : Addr) : Heap := (zt2 h a b).push (itO "list_iterator" c)
abbrev zt4 (h : Heap) (a b c : Addr) : Heap := (zt3 h a b c).push (tuO #[.ref h.objs.size, .ref (zt1 h a).objs.size, .ref (zt2 h a b).objs.size])
abbrev zt5 (h : Heap) (a b c : Addr) : Heap := (zt4 h a b c).push (tuO #[.none, .none, .none])
abbrev zt6 (h : Heap) (a b c : Addr) : Heap := (zt5 h a b c).push (ziO (zt3 h a b c).objs.size (zt4 h a b c).objs.size)
theorem meets_zt (a b c : Addr) (xs ys zs : Array Value) : Meets (Builtin.«zip.__new__» ⟨[.type "zip", .ref a, .ref b, .ref c], []⟩) (fun _ R s => s.heap.IsList a xs ∧ s.heap.IsList b ys ∧ s.heap.IsList c zs ∧ R (.ok (.ret (.ref (zt5 s.heap a b c).objs.size))) { s with heap := zt6 s.heap a b c }) :=
  .of_wp fun prog w A R s ⟨ha, hb, hc, h⟩ => by
    obtain ⟨hp, g, d, tk, os⟩ := s
    have hsub := sub_zip
    have a1 : Heap.IsList (Shared.heap ⟨hp, g, d, tk, os⟩) a xs := ha
    have a2 : Heap.IsList (Shared.heap ⟨zt1 hp a, g, d, tk, os⟩) b ys := Heap.IsList.push hb _
    have a3 : Heap.IsList (Shared.heap ⟨zt2 hp a b, g, d, tk, os⟩) c zs := Heap.IsList.push (Heap.IsList.push hc _) _
    wp_walk using wpAny_pyIter_list a1, wpAny_pyIter_list a2, wpAny_pyIter_list a3
    exact ⟨_, rfl, h⟩
theorem call_zt {a b c : Addr} {xs ys zs : Array Value} {Q : Value → Shared → Prop} (ha : s.heap.IsList a xs) (hb : s.heap.IsList b ys) (hc : s.heap.IsList c zs)
    (h : ∀ h' : Heap, IsZip h' (s.heap.objs.size + 5) (s.heap.objs.size + 3) (s.heap.objs.size + 4) .none → IsTupOf3 h' (s.heap.objs.size + 3) (.ref s.heap.objs.size) (.ref (s.heap.objs.size + 1)) (.ref (s.heap.objs.size + 2)) → IsTupOf3 h' (s.heap.objs.size + 4) .none .none .none →
      h'.IsListIter s.heap.objs.size a 0 → h'.IsListIter (s.heap.objs.size + 1) b 0 → h'.IsListIter (s.heap.objs.size + 2) c 0 → (∀ c o, s.heap.get? c = some o → h'.get? c = some o) → Q (.ref (s.heap.objs.size + 5)) { s with heap := h' }) : wpAny (model prog w) A (call (.type "zip") [.ref a, .ref b, .ref c]) Q E s := by
  refine callType_new F.called_zip (by decide) (typeCall_z3 _ _ _) (newCall_z3 _ _ _) (fun obj => argsInit4 obj _ _ _) F.entry_zip_new (meets_zt a b c xs ys zs) ⟨ha, hb, hc, ?_⟩
  have e1 : (zt1 s.heap a).objs.size = s.heap.objs.size + 1 := Heap.size_push ..
  have e2 : (zt2 s.heap a b).objs.size = s.heap.objs.size + 2 := by rw [Heap.size_push, e1]
  have e3 : (zt3 s.heap a b c).objs.size = s.heap.objs.size + 3 := by rw [Heap.size_push, e2]
  have e4 : (zt4 s.heap a b c).objs.size = s.heap.objs.size + 4 := by rw [Heap.size_push, e3]
  have e5 : (zt5 s.heap a b c).objs.size = s.heap.objs.size + 5 := by rw [Heap.size_push, e4]
  have g6 : (zt6 s.heap a b c).get? (zt5 s.heap a b c).objs.size = some _ := Heap.get?_push_size _ rfl
  have g5 : (zt6 s.heap a b c).get? (zt4 s.heap a b c).objs.size = some _ := Heap.get?_push_of_some _ (Heap.get?_push_size _ rfl)
  have g4 : (zt6 s.heap a b c).get? (zt3 s.heap a b c).objs.size = some _ := Heap.get?_push_of_some _ (Heap.get?_push_of_some _ (Heap.get?_push_size _ rfl))
  have g3 : (zt6 s.heap a b c).get? (zt2 s.heap a b).objs.size = some _ := Heap.get?_push_of_some _ (Heap.get?_push_of_some _ (Heap.get?_push_of_some _ (Heap.get?_push_size _ rfl)))
  have g2 : (zt6 s.heap a b c).get? (zt1 s.heap a).objs.size = some _ := Heap.get?_push_of_some _ (Heap.get?_push_of_some _ (Heap.get?_push_of_some _ (Heap.get?_push_of_some _ (Heap.get?_push_size _ rfl))))
  have g1 : (zt6 s.heap a b c).get? s.heap.objs.size = some _ := Heap.get?_push_of_some _ (Heap.get?_push_of_some _ (Heap.get?_push_of_some _ (Heap.get?_push_of_some _ (Heap.get?_push_of_some _ (Heap.get?_push_size _ rfl)))))
  rw [e5] at g6
  rw [e4] at g5
  rw [e3] at g4
  rw [e2] at g3
  rw [e1] at g2
  show _ ∧ _
  rw [e5]
  refine ⟨⟨_, g6, rfl⟩, h _ ?_ ?_ g5 ⟨_, g1, rfl, rfl⟩ ⟨_, g2, rfl, rfl⟩ ⟨_, g3, rfl, rfl⟩ fun c o x => Heap.get?_push_of_some _ (Heap.get?_push_of_some _ (Heap.get?_push_of_some _ (Heap.get?_push_of_some _ (Heap.get?_push_of_some _ (Heap.get?_push_of_some _ x)))))⟩
  · rw [e3, e4] at g6; exact g6
  · rw [e1, e2] at g4; exact g4
end mk
end Bs
namespace Bs
open PySem PySem.Spec PyProof.Rows L2
def ItM (K : PySem.W.Frag) (a b : Addr) : It :=
  ⟨fun i H => ∃ (xs ys : List V) (x y : V), SqL K H a xs ∧ SqT K H b ys ∧ xs[i]? = some x ∧ ys[i]? = some y,
    fun i H v H' => ∃ (T : Addr) (x y : V), v = .ref T ∧ H T = none ∧ H' = upd H T (.tup [x, y]) ∧ (∀ xs, SqL K H a xs → xs[i]? = some x) ∧ ∀ ys, SqT K H b ys → ys[i]? = some y,
    fun i H => ∃ xs ys : List V, SqL K H a xs ∧ SqT K H b ys ∧ i ≤ xs.length ∧ i ≤ ys.length ∧ (i = xs.length ∨ i = ys.length)⟩
theorem turn_m {P : Program} {w : World} {K : PySem.W.Frag} {elts : List Expr} {kk : Nat} {tpos : Pos} {a b z TI TO i1 i2 : Addr} (D : ZipSep2 z TI TO i1 i2 [i1, a] [i2, b]) (na : a ≠ i1) (nb : b ≠ i2) :
    Turn P w K (.Tuple elts kk tpos) (ItM K a b) [z, TI, TO, i1, i2] z (fun i h => IsZip h z TI TO .none ∧ IsTupOf2 h TI (.ref i1) (.ref i2) ∧ (∃ x y, IsTupOf2 h TO x y) ∧ h.IsListIter i1 a i ∧ h.IsTupleIter i2 b i) where
  mem := List.mem_cons_self
  obj := fun i h st c hc => by
    obtain ⟨hz, hTI, ⟨x, y, hTO⟩, ⟨o1, e1, _, d1⟩, ⟨o2, e2, _, d2⟩⟩ := st
    simp only [List.mem_cons, List.mem_nil_iff, or_false] at hc
    rcases hc with q | q | q | q | q
    · subst q; exact ⟨_, hz, by intro v e; cases e⟩
    · subst q; exact ⟨_, hTI, by intro v e; cases e⟩
    · subst q; exact ⟨_, hTO, by intro v e; cases e⟩
    · exact ⟨o1, q ▸ e1, fun v q => by rw [d1] at q; cases q⟩
    · exact ⟨o2, q ▸ e2, fun v q => by rw [d2] at q; cases q⟩
  keep := fun i h h' ⟨hz, hTI, ⟨x, y, hTO⟩, h1, h2⟩ k => ⟨k z (by simp) _ hz, k TI (by simp) _ hTI, ⟨x, y, k TO (by simp) _ hTO⟩, h1.at fun o q => k i1 (by simp) o q, h2.at fun o q => k i2 (by simp) o q⟩
  item := by
    intro X hP hw hK hc i pins s σ H E I hf ⟨hz, hTI, ⟨x0, y0, hTO⟩, h1, h2⟩ ⟨xs, ys, x, y, hqx, hqy, hx, hy⟩
    subst hP hw hK
    obtain ⟨its, rv, p, _⟩ := I.list hqx
    obtain ⟨its2, rv2, p2, _⟩ := I.tuple hqy
    obtain ⟨u, hu, ru⟩ := rv.get hx
    obtain ⟨u2, hu2, ru2⟩ := rv2.get hy
    have hh := I.ok.hd hc
    have zl : z < s.heap.objs.size := Heap.lt_size hz
    have l1 := (List.getElem?_eq_some_iff.mp hu).1
    have l2 := (List.getElem?_eq_some_iff.mp hu2).1
    refine wpAny_pyNext_zipD2_item (i := i) D (Draws.list (A := X.A.in1) hh i1 a na its.toArray) (Draws.tuple (A := X.A.in1) hh i2 b nb its2.toArray) hz hTI hTO ⟨h1, p.isList⟩ ⟨h2, p2⟩ (by rw [List.size_toArray]; exact l1) (by rw [List.size_toArray]; exact l2) fun x1 x2 h' tk q1 q2 z' TO' s1' s2' hT _ hk => ?_
    have e1 : x1 = u := by rw [← Array.getElem?_toList] at q1; exact Option.some.inj (q1.symm.trans hu)
    have e2 : x2 = u2 := by rw [← Array.getElem?_toList] at q2; exact Option.some.inj (q2.symm.trans hu2)
    subst e1 e2
    refine ⟨_, rfl, wpAny_letOwnedTupleGo_zip (s := { s with heap := h', toks := tk }) z' fun h'' z'' sb => ?_⟩
    have hT2 : h''.get? s.heap.objs.size = some { cls := .type "tuple", data := .seq #[x1, x2] } := (sb.2 _ (Nat.ne_of_gt zl)).trans hT
    have new : ObjOk X.prog X.w (upd H s.heap.objs.size (.tup [x, y])) h'' s.heap.objs.size (.tup [x, y]) := ⟨by show 2 ≤ sizeLine; decide, [x1, x2], .cons ru (.cons ru2 .nil), ⟨_, hT2, rfl, _, rfl⟩⟩
    have I1 : Inv X pins σ (upd H s.heap.objs.size (.tup [x, y])) { s with heap := h'', toks := tk } :=
      I.turnedNew (t' := tk) (ch := [z, TI, TO, i1, i2]) (fun c o hb q => by
        simp only [List.mem_cons, List.mem_nil_iff, or_false, not_or] at hb
        exact (sb.2 c hb.1).trans (hk c o hb.1 hb.2.2.1 hb.2.2.2.1 hb.2.2.2.2 q)) hf (Nat.le_refl _) new
    refine ⟨.ref s.heap.objs.size, _, I1, rfl, ⟨_, x, y, rfl, I.hok.fresh (Nat.le_refl _), rfl, fun l hl => by rw [I.list_inj hl hqx]; exact hx, fun l hl => by rw [I.tuple_inj hl hqy]; exact hy⟩, ⟨z'', ?_, ⟨x1, x2, ?_⟩, ?_, ?_⟩, fun c hcm => ?_⟩
    · exact (sb.2 _ D.TIz).trans (hk _ _ D.TIz D.TITO D.TIi1 D.TIi2 hTI)
    · exact (sb.2 _ D.TOz).trans TO'
    · exact s1'.1.at fun o q => (sb.2 _ D.zi1.symm).trans q
    · exact s2'.1.at fun o q => (sb.2 _ D.zi2.symm).trans q
    · have hlt : c < s.heap.objs.size := by
        simp only [List.mem_cons, List.mem_nil_iff, or_false] at hcm
        rcases hcm with q | q | q | q | q
        · exact q ▸ zl
        · exact q ▸ Heap.lt_size hTI
        · exact q ▸ Heap.lt_size hTO
        · obtain ⟨_, e1, _⟩ := h1
          exact q ▸ Heap.lt_size e1
        · obtain ⟨_, e2, _⟩ := h2
          exact q ▸ Heap.lt_size e2
      rw [upd_ne (Nat.ne_of_lt hlt)]
      exact (hf c hcm).1
  done := by
    intro X hP hw hK hc i pins s σ H E I hf ⟨hz, hTI, ⟨x0, y0, hTO⟩, h1, h2⟩ ⟨xs, ys, hqx, hqy, m1, m2, hend⟩
    subst hP hw hK
    obtain ⟨its, rv, p, _⟩ := I.list hqx
    obtain ⟨its2, rv2, p2, _⟩ := I.tuple hqy
    have hh := I.ok.hd hc
    have l1 := rv.length
    have l2 := rv2.length
    exact wpAny_pyNext_zipD2_end (i := i) D (Draws.list (A := X.A.in1) hh i1 a na its.toArray) (Draws.tuple (A := X.A.in1) hh i2 b nb its2.toArray) hz hTI hTO ⟨h1, p.isList⟩ ⟨h2, p2⟩ (by rw [List.size_toArray]; omega) (by rw [List.size_toArray]; omega) (by rw [List.size_toArray, List.size_toArray]; omega)
      fun h' tk hk => ⟨rfl, I.turnedL (t' := tk) (ch := [z, TI, TO, i1, i2]) (fun c o hb q => by
        simp only [List.mem_cons, List.mem_nil_iff, or_false, not_or] at hb
        exact hk c o hb.1 hb.2.2.1 hb.2.2.2.1 hb.2.2.2.2 q) hf⟩
  self := fun A i s Q E st h => wpAny_pyIter_zip st.1 h
theorem pg_tupK {X : Cx} {K : PySem.W.Frag} {es : List Expr} {k n : Nat} {pos : Pos} {t : TGs} (hK : X.K = K) (hc : X.calm = true) (h : PGs X es t)
    (hn : (assignEach es X.env).length = n := by rfl) (hst : (assignEach es X.env).findIdx? (·.1) = none := by rfl) : PG X (.Tuple es k pos) (gTup K n t) := by
  subst hK
  exact pg_tup hc h hn hst
theorem nin2 {x a b : Nat} (h1 : x ≠ a) (h2 : x ≠ b) : x ∉ [a, b] := by
  simp only [List.mem_cons, List.mem_nil_iff, or_false, not_or]
  exact ⟨h1, h2⟩
theorem sep_m (I a b : Nat) (h1 : a < I) (h2 : b < I) : ZipSep2 (I + 4) (I + 2) (I + 3) I (I + 1) [I, a] [I + 1, b] where
  TIz := Nat.ne_of_lt (by omega)
  TOz := Nat.ne_of_lt (by omega)
  TITO := Nat.ne_of_lt (by omega)
  TIi1 := Nat.ne_of_gt (by omega)
  mem1 := List.mem_cons_self
  zf1 := nin2 (by omega) (by omega)
  Tf1 := nin2 (by omega) (by omega)
  TIi2 := Nat.ne_of_gt (by omega)
  mem2 := List.mem_cons_self
  zf2 := nin2 (by omega) (by omega)
  Tf2 := nin2 (by omega) (by omega)
  sep1_2 := nin2 (by omega) (by omega)
  sep2_1 := nin2 (by omega) (by omega)
theorem sep_t (I a b c : Nat) (h1 : a < I) (h2 : b < I) (h3 : c < I) : ZipSep3 (I + 5) (I + 3) (I + 4) I (I + 1) (I + 2) [I, a] [I + 1, b] [I + 2, c] := by
  constructor <;> first | exact List.mem_cons_self | exact nin2 (by omega) (by omega) | exact Nat.ne_of_lt (by omega) | exact Nat.ne_of_gt (by omega)
theorem ne_add (I b k : Nat) (h : b < I) : b ≠ I + k := by omega
theorem le_one {I c : Nat} (h : c = I + 4 ∨ c = I + 2 ∨ c = I + 3 ∨ c = I ∨ c = I + 1) : I ≤ c := by omega
theorem le_two {I c : Nat} (h : c = I + 5 ∨ c = I + 3 ∨ c = I + 4 ∨ c = I ∨ c = I + 1 ∨ c = I + 2) : I ≤ c := by omega
def iZipM (K : PySem.W.Frag) (ta : TA) : TI := fun σ H R => ta σ H fun vs H1 => ∃ (a b : Addr) (xs ys : List V), vs = [.ref a, .ref b] ∧ SqL K H1 a xs ∧ SqT K H1 b ys ∧ R (ItM K a b) H1
theorem pi_zipM {X : Cx} {K : PySem.W.Frag} {e e2 : Expr} {ta : TA} {p pos tpos : Pos} {elts : List Expr} {kk : Nat} (hK : X.K = K) (hg : Gl X "zip") (hm : X.mg "zip" = none) (ha : PA X [e, e2] ta)
    (hs : starEach [e, e2] X.env = (false, eval e X.env) :: starEach [e2] X.env := by rfl) (hpl : (backTo pos (starEach [e2] X.env)).any (·.1) = false := by rfl) :
    PI X (.Tuple elts kk tpos) (.Call (.Name "zip" p) [e, e2] [] pos) (iZipM K ta) := by
  subst hK
  refine ⟨fun pins s σ H R I h => ?_⟩
  refine Call_ (ld_blt I hg hm PyProof.Rows.boot_zip (PyProof.Rows.callWith_type1 (thn (ha.run pos pins s σ H _ I h) fun us s1 ⟨vs, H1, I1, r1, a, b, xs, ys, ex, hqx, hqy, q⟩ => ?_) hs hpl))
  subst ex
  obtain ⟨u1, u2, rfl, r, r'⟩ := vals2 r1
  cases r
  cases r'
  obtain ⟨its, rv, p1, _⟩ := I1.list hqx
  obtain ⟨its2, rv2, p2, _⟩ := I1.tuple hqy
  have la : a < s1.heap.objs.size := p1.lt
  have lb : b < s1.heap.objs.size := by obtain ⟨o, e, _⟩ := p2; exact Heap.lt_size e
  refine call_zm p1.isList p2 fun h' hz hTI hTO h1 h2 hk => wpAny_pyIter_zip hz ?_
  have I2 : Inv X pins σ H1 { s1 with heap := h' } := I1.kept (t' := s1.toks) hk
  have D := sep_m s1.heap.objs.size a b la lb
  refine ⟨s1.heap.objs.size + 4, [s1.heap.objs.size + 4, s1.heap.objs.size + 2, s1.heap.objs.size + 3, s1.heap.objs.size, s1.heap.objs.size + 1], _, _, H1, rfl, I2, turn_m D (Nat.ne_of_lt la) (ne_add _ _ 1 lb), ⟨hz, hTI, ⟨_, _, hTO⟩, h1, h2⟩, fun c hcm => ?_, q⟩
  have hle : s1.heap.objs.size ≤ c := by
    simp only [List.mem_cons, List.mem_nil_iff, or_false] at hcm
    exact le_one hcm
  exact I1.fpOk hle (I1.hok.fresh hle)
/-- a comprehension over such a zip, of one length -/
theorem lc_zipM {K : PySem.W.Frag} {a b : Addr} {xs ys : List V} {g : TG} {tt : TT} {te : TE} {vs : List Nat} {σ : L2.St} {H1 : Hp} {D : Addr} {Qd : Hp → Prop} (hl : xs.length = ys.length) (Pv : Nat → Hp → Prop) (h0 : Pv 0 (upd H1 D (.lst [])))
    (hq : ∀ i H, Pv i H → SqL K H a xs ∧ SqT K H b ys)
    (hs : ∀ i x y T H, xs[i]? = some x → ys[i]? = some y → Pv i H → H T = none → g (.ref T) (wipe σ vs) (upd H T (.tup [x, y])) fun σ2 H2 => wipe σ2 vs = wipe σ vs ∧ tt σ2 H2 fun b H3 =>
      if b = true then te σ2 H3 fun y H4 => ∃ acc, H4 D = some (.lst acc) ∧ acc.length < sizeLine ∧ Pv (i + 1) (upd H4 D (.lst (acc ++ [y]))) else Pv (i + 1) H3) (hd : ∀ H, Pv xs.length H → Qd H) :
    ∃ W : Nat → Nat → Hp → Prop, (∃ m, W 0 m (upd H1 D (.lst []))) ∧ ∀ i m H, W i m H →
      ((ItM K a b).stop i H ∧ Qd H) ∨ ((ItM K a b).go i H ∧ ∃ Nx : Hp → Prop, (∀ H', Nx H' → ∃ m', m' < m ∧ W (i + 1) m' H') ∧ ∀ x H', (ItM K a b).yld i H x H' → g x (wipe σ vs) H' fun σ2 H2 => wipe σ2 vs = wipe σ vs ∧ tt σ2 H2 fun b H3 =>
        if b = true then te σ2 H3 fun y H4 => ∃ acc, H4 D = some (.lst acc) ∧ acc.length < sizeLine ∧ Nx (upd H4 D (.lst (acc ++ [y]))) else Nx H3) := by
  refine ⟨fun i m H => Pv i H ∧ i + m = xs.length, ⟨xs.length, h0, Nat.zero_add _⟩, fun i m H ⟨hp, em⟩ => ?_⟩
  obtain ⟨qx, qy⟩ := hq i H hp
  cases m with
  | zero =>
    have e : i = xs.length := em
    subst e
    exact .inl ⟨⟨xs, ys, qx, qy, Nat.le_refl _, by omega, .inl rfl⟩, hd H hp⟩
  | succ m =>
    have li : i < xs.length := by omega
    have hx := List.getElem?_eq_getElem li
    have hy := List.getElem?_eq_getElem (l := ys) (i := i) (by omega)
    refine .inr ⟨⟨xs, ys, _, _, qx, qy, hx, hy⟩, Pv (i + 1), fun H' h' => ⟨m, Nat.lt_succ_self m, h', by omega⟩, ?_⟩
    rintro _ _ ⟨T, x, y, rfl, hT, rfl, ex, ey⟩
    exact hs i x y T H (ex xs qx) (ey ys qy) hp hT
/-- a comprehension over zip of two lists of one length -/
theorem lc_zipL {K : PySem.W.Frag} {a b : Addr} {xs ys : List V} {g : TG} {tt : TT} {te : TE} {vs : List Nat} {σ : L2.St} {H1 : Hp} {D : Addr} {Qd : Hp → Prop} (hl : xs.length = ys.length) (Pv : Nat → Hp → Prop) (h0 : Pv 0 (upd H1 D (.lst [])))
    (hq : ∀ i H, Pv i H → SqL K H a xs ∧ SqL K H b ys)
    (hs : ∀ i x y T H, xs[i]? = some x → ys[i]? = some y → Pv i H → H T = none → g (.ref T) (wipe σ vs) (upd H T (.tup [x, y])) fun σ2 H2 => wipe σ2 vs = wipe σ vs ∧ tt σ2 H2 fun b H3 =>
      if b = true then te σ2 H3 fun y H4 => ∃ acc, H4 D = some (.lst acc) ∧ acc.length < sizeLine ∧ Pv (i + 1) (upd H4 D (.lst (acc ++ [y]))) else Pv (i + 1) H3) (hd : ∀ H, Pv xs.length H → Qd H) :
    ∃ W : Nat → Nat → Hp → Prop, (∃ m, W 0 m (upd H1 D (.lst []))) ∧ ∀ i m H, W i m H →
      ((Itz K a b).stop i H ∧ Qd H) ∨ ((Itz K a b).go i H ∧ ∃ Nx : Hp → Prop, (∀ H', Nx H' → ∃ m', m' < m ∧ W (i + 1) m' H') ∧ ∀ x H', (Itz K a b).yld i H x H' → g x (wipe σ vs) H' fun σ2 H2 => wipe σ2 vs = wipe σ vs ∧ tt σ2 H2 fun b H3 =>
        if b = true then te σ2 H3 fun y H4 => ∃ acc, H4 D = some (.lst acc) ∧ acc.length < sizeLine ∧ Nx (upd H4 D (.lst (acc ++ [y]))) else Nx H3) := by
  refine ⟨fun i m H => Pv i H ∧ i + m = xs.length, ⟨xs.length, h0, Nat.zero_add _⟩, fun i m H ⟨hp, em⟩ => ?_⟩
  obtain ⟨qx, qy⟩ := hq i H hp
  cases m with
  | zero =>
    have e : i = xs.length := em
    subst e
    exact .inl ⟨⟨xs, ys, qx, qy, .inl (Nat.le_refl _)⟩, hd H hp⟩
  | succ m =>
    have li : i < xs.length := by omega
    have hx := List.getElem?_eq_getElem li
    have hy := List.getElem?_eq_getElem (l := ys) (i := i) (by omega)
    refine .inr ⟨⟨xs, ys, _, _, qx, qy, hx, hy⟩, Pv (i + 1), fun H' h' => ⟨m, Nat.lt_succ_self m, h', by omega⟩, ?_⟩
    rintro _ _ ⟨T, x, y, rfl, hT, rfl, ex, ey⟩
    exact hs i x y T H (ex xs qx) (ey ys qy) hp hT
/-! three lists -/
def It3 (K : PySem.W.Frag) (a b c : Addr) : It :=
  ⟨fun i H => ∃ (xs ys zs : List V) (x y z : V), SqL K H a xs ∧ SqL K H b ys ∧ SqL K H c zs ∧ xs[i]? = some x ∧ ys[i]? = some y ∧ zs[i]? = some z,
    fun i H v H' => ∃ (T : Addr) (x y z : V), v = .ref T ∧ H T = none ∧ H' = upd H T (.tup [x, y, z]) ∧ (∀ xs, SqL K H a xs → xs[i]? = some x) ∧ (∀ ys, SqL K H b ys → ys[i]? = some y) ∧ ∀ zs, SqL K H c zs → zs[i]? = some z,
    fun i H => ∃ xs ys zs : List V, SqL K H a xs ∧ SqL K H b ys ∧ SqL K H c zs ∧ i ≤ xs.length ∧ i ≤ ys.length ∧ i ≤ zs.length ∧ (i = xs.length ∨ i = ys.length ∨ i = zs.length)⟩
theorem turn_3 {P : Program} {w : World} {K : PySem.W.Frag} {elts : List Expr} {kk : Nat} {tpos : Pos} {a b c z TI TO i1 i2 i3 : Addr} (D : ZipSep3 z TI TO i1 i2 i3 [i1, a] [i2, b] [i3, c]) (na : a ≠ i1) (nb : b ≠ i2) (nc : c ≠ i3) :
    Turn P w K (.Tuple elts kk tpos) (It3 K a b c) [z, TI, TO, i1, i2, i3] z (fun i h => IsZip h z TI TO .none ∧ IsTupOf3 h TI (.ref i1) (.ref i2) (.ref i3) ∧ (∃ x y u, IsTupOf3 h TO x y u) ∧ h.IsListIter i1 a i ∧ h.IsListIter i2 b i ∧ h.IsListIter i3 c i) where
  mem := List.mem_cons_self
  obj := fun i h st q hc => by
    obtain ⟨hz, hTI, ⟨x, y, u, hTO⟩, ⟨o1, e1, _, d1⟩, ⟨o2, e2, _, d2⟩, ⟨o3, e3, _, d3⟩⟩ := st
    simp only [List.mem_cons, List.mem_nil_iff, or_false] at hc
    rcases hc with q | q | q | q | q | q
    · subst q; exact ⟨_, hz, by intro v e; cases e⟩
    · subst q; exact ⟨_, hTI, by intro v e; cases e⟩
    · subst q; exact ⟨_, hTO, by intro v e; cases e⟩
    · exact ⟨o1, q ▸ e1, fun v q => by rw [d1] at q; cases q⟩
    · exact ⟨o2, q ▸ e2, fun v q => by rw [d2] at q; cases q⟩
    · exact ⟨o3, q ▸ e3, fun v q => by rw [d3] at q; cases q⟩
  keep := fun i h h' ⟨hz, hTI, ⟨x, y, u, hTO⟩, h1, h2, h3⟩ k => ⟨k z (by simp) _ hz, k TI (by simp) _ hTI, ⟨x, y, u, k TO (by simp) _ hTO⟩, h1.at fun o q => k i1 (by simp) o q, h2.at fun o q => k i2 (by simp) o q, h3.at fun o q => k i3 (by simp) o q⟩
  item := by
    intro X hP hw hK hc i pins s σ H E I hf ⟨hz, hTI, ⟨x0, y0, u0, hTO⟩, h1, h2, h3⟩ ⟨xs, ys, zs, x, y, zz, hqx, hqy, hqz, hx, hy, hzz⟩
    subst hP hw hK
    obtain ⟨its, rv, p, _⟩ := I.list hqx
    obtain ⟨its2, rv2, p2, _⟩ := I.list hqy
    obtain ⟨its3, rv3, p3, _⟩ := I.list hqz
    obtain ⟨u, hu, ru⟩ := rv.get hx
    obtain ⟨u2, hu2, ru2⟩ := rv2.get hy
    obtain ⟨u3, hu3, ru3⟩ := rv3.get hzz
    have hh := I.ok.hd hc
    have zl : z < s.heap.objs.size := Heap.lt_size hz
    have l1 := (List.getElem?_eq_some_iff.mp hu).1
    have l2 := (List.getElem?_eq_some_iff.mp hu2).1
    have l3 := (List.getElem?_eq_some_iff.mp hu3).1
    refine wpAny_pyNext_zipD3_item (i := i) D (Draws.list (A := X.A.in1) hh i1 a na its.toArray) (Draws.list (A := X.A.in1) hh i2 b nb its2.toArray) (Draws.list (A := X.A.in1) hh i3 c nc its3.toArray) hz hTI hTO ⟨h1, p.isList⟩ ⟨h2, p2.isList⟩ ⟨h3, p3.isList⟩ (by rw [List.size_toArray]; exact l1) (by rw [List.size_toArray]; exact l2) (by rw [List.size_toArray]; exact l3) fun x1 x2 x3 h' tk q1 q2 q3 z' TO' s1' s2' s3' hT _ hk => ?_
    have e1 : x1 = u := by rw [← Array.getElem?_toList] at q1; exact Option.some.inj (q1.symm.trans hu)
    have e2 : x2 = u2 := by rw [← Array.getElem?_toList] at q2; exact Option.some.inj (q2.symm.trans hu2)
    have e3 : x3 = u3 := by rw [← Array.getElem?_toList] at q3; exact Option.some.inj (q3.symm.trans hu3)
    subst e1 e2 e3
    refine ⟨_, rfl, wpAny_letOwnedTupleGo_zip (s := { s with heap := h', toks := tk }) z' fun h'' z'' sb => ?_⟩
    have hT2 : h''.get? s.heap.objs.size = some { cls := .type "tuple", data := .seq #[x1, x2, x3] } := (sb.2 _ (Nat.ne_of_gt zl)).trans hT
    have new : ObjOk X.prog X.w (upd H s.heap.objs.size (.tup [x, y, zz])) h'' s.heap.objs.size (.tup [x, y, zz]) := ⟨by show 3 ≤ sizeLine; decide, [x1, x2, x3], .cons ru (.cons ru2 (.cons ru3 .nil)), ⟨_, hT2, rfl, _, rfl⟩⟩
    have I1 : Inv X pins σ (upd H s.heap.objs.size (.tup [x, y, zz])) { s with heap := h'', toks := tk } :=
      I.turnedNew (t' := tk) (ch := [z, TI, TO, i1, i2, i3]) (fun c o hb q => by
        simp only [List.mem_cons, List.mem_nil_iff, or_false, not_or] at hb
        exact (sb.2 c hb.1).trans (hk c o hb.1 hb.2.2.1 hb.2.2.2.1 hb.2.2.2.2.1 hb.2.2.2.2.2 q)) hf (Nat.le_refl _) new
    refine ⟨.ref s.heap.objs.size, _, I1, rfl, ⟨_, x, y, zz, rfl, I.hok.fresh (Nat.le_refl _), rfl, fun l hl => by rw [I.list_inj hl hqx]; exact hx, fun l hl => by rw [I.list_inj hl hqy]; exact hy, fun l hl => by rw [I.list_inj hl hqz]; exact hzz⟩, ⟨z'', ?_, ⟨x1, x2, x3, ?_⟩, ?_, ?_, ?_⟩, fun c hcm => ?_⟩
    · exact (sb.2 _ D.TIz).trans (hk _ _ D.TIz D.TITO D.TIi1 D.TIi2 D.TIi3 hTI)
    · exact (sb.2 _ D.TOz).trans TO'
    · exact s1'.1.at fun o q => (sb.2 _ D.zi1.symm).trans q
    · exact s2'.1.at fun o q => (sb.2 _ D.zi2.symm).trans q
    · exact s3'.1.at fun o q => (sb.2 _ D.zi3.symm).trans q
    · have hlt : c < s.heap.objs.size := by
        simp only [List.mem_cons, List.mem_nil_iff, or_false] at hcm
        rcases hcm with q | q | q | q | q | q
        · exact q ▸ zl
        · exact q ▸ Heap.lt_size hTI
        · exact q ▸ Heap.lt_size hTO
        · obtain ⟨_, e1, _⟩ := h1
          exact q ▸ Heap.lt_size e1
        · obtain ⟨_, e2, _⟩ := h2
          exact q ▸ Heap.lt_size e2
        · obtain ⟨_, e3, _⟩ := h3
          exact q ▸ Heap.lt_size e3
      rw [upd_ne (Nat.ne_of_lt hlt)]
      exact (hf c hcm).1
  done := by
    intro X hP hw hK hc i pins s σ H E I hf ⟨hz, hTI, ⟨x0, y0, u0, hTO⟩, h1, h2, h3⟩ ⟨xs, ys, zs, hqx, hqy, hqz, m1, m2, m3, hend⟩
    subst hP hw hK
    obtain ⟨its, rv, p, _⟩ := I.list hqx
    obtain ⟨its2, rv2, p2, _⟩ := I.list hqy
    obtain ⟨its3, rv3, p3, _⟩ := I.list hqz
    have hh := I.ok.hd hc
    have l1 := rv.length
    have l2 := rv2.length
    have l3 := rv3.length
    exact wpAny_pyNext_zipD3_end (i := i) D (Draws.list (A := X.A.in1) hh i1 a na its.toArray) (Draws.list (A := X.A.in1) hh i2 b nb its2.toArray) (Draws.list (A := X.A.in1) hh i3 c nc its3.toArray) hz hTI hTO ⟨h1, p.isList⟩ ⟨h2, p2.isList⟩ ⟨h3, p3.isList⟩ (by rw [List.size_toArray]; omega) (by rw [List.size_toArray]; omega) (by rw [List.size_toArray]; omega)
      (by rw [List.size_toArray, List.size_toArray, List.size_toArray]; omega)
      fun h' tk hk => ⟨rfl, I.turnedL (t' := tk) (ch := [z, TI, TO, i1, i2, i3]) (fun c o hb q => by
        simp only [List.mem_cons, List.mem_nil_iff, or_false, not_or] at hb
        exact hk c o hb.1 hb.2.2.1 hb.2.2.2.1 hb.2.2.2.2.1 hb.2.2.2.2.2 q) hf⟩
  self := fun A i s Q E st h => wpAny_pyIter_zip st.1 h
def iZip3 (K : PySem.W.Frag) (ta : TA) : TI := fun σ H R => ta σ H fun vs H1 => ∃ (a b c : Addr) (xs ys zs : List V), vs = [.ref a, .ref b, .ref c] ∧ SqL K H1 a xs ∧ SqL K H1 b ys ∧ SqL K H1 c zs ∧ R (It3 K a b c) H1
theorem pi_zip3 {X : Cx} {K : PySem.W.Frag} {e e2 e3 : Expr} {ta : TA} {p pos tpos : Pos} {elts : List Expr} {kk : Nat} (hK : X.K = K) (hg : Gl X "zip") (hm : X.mg "zip" = none) (ha : PA X [e, e2, e3] ta)
    (hs : starEach [e, e2, e3] X.env = (false, eval e X.env) :: starEach [e2, e3] X.env := by rfl) (hpl : (backTo pos (starEach [e2, e3] X.env)).any (·.1) = false := by rfl) :
    PI X (.Tuple elts kk tpos) (.Call (.Name "zip" p) [e, e2, e3] [] pos) (iZip3 K ta) := by
  subst hK
  refine ⟨fun pins s σ H R I h => ?_⟩
  refine Call_ (ld_blt I hg hm PyProof.Rows.boot_zip (PyProof.Rows.callWith_type1 (thn (ha.run pos pins s σ H _ I h) fun us s1 ⟨vs, H1, I1, r1, a, b, c, xs, ys, zs, ex, hqx, hqy, hqz, q⟩ => ?_) hs hpl))
  subst ex
  cases r1 with
  | cons r rr =>
  cases rr with
  | cons r' rr =>
  cases rr with
  | cons r'' rr =>
  cases rr
  cases r
  cases r'
  cases r''
  obtain ⟨its, rv, p1, _⟩ := I1.list hqx
  obtain ⟨its2, rv2, p2, _⟩ := I1.list hqy
  obtain ⟨its3, rv3, p3, _⟩ := I1.list hqz
  refine call_zt p1.isList p2.isList p3.isList fun h' hz hTI hTO h1 h2 h3 hk => wpAny_pyIter_zip hz ?_
  have I2 : Inv X pins σ H1 { s1 with heap := h' } := I1.kept (t' := s1.toks) hk
  have D := sep_t s1.heap.objs.size a b c p1.lt p2.lt p3.lt
  refine ⟨s1.heap.objs.size + 5, [s1.heap.objs.size + 5, s1.heap.objs.size + 3, s1.heap.objs.size + 4, s1.heap.objs.size, s1.heap.objs.size + 1, s1.heap.objs.size + 2], _, _, H1, rfl, I2, turn_3 D (Nat.ne_of_lt p1.lt) (ne_add _ _ 1 p2.lt) (ne_add _ _ 2 p3.lt), ⟨hz, hTI, ⟨_, _, _, hTO⟩, h1, h2, h3⟩, fun c hcm => ?_, q⟩
  have hle : s1.heap.objs.size ≤ c := by
    simp only [List.mem_cons, List.mem_nil_iff, or_false] at hcm
    exact le_two hcm
  exact I1.fpOk hle (I1.hok.fresh hle)
theorem for_zip3 {K : PySem.W.Frag} {a b c : Addr} {xs ys zs : List V} {g : TG} {tb : TS} {D : Ends} {σ : L2.St} {H : Hp} (h1 : xs.length = ys.length) (h2 : xs.length = zs.length) (Pv : Nat → L2.St → Hp → Prop) (h0 : Pv 0 σ H)
    (hq : ∀ i σ H, Pv i σ H → SqL K H a xs ∧ SqL K H b ys ∧ SqL K H c zs)
    (hs : ∀ i x y z T σ H, xs[i]? = some x → ys[i]? = some y → zs[i]? = some z → Pv i σ H → H T = none → g (.ref T) σ (upd H T (.tup [x, y, z])) fun σ2 H2 => tb { nx := Pv (i + 1), rt := D.rt, bk := D.nx, ct := Pv (i + 1) } σ2 H2)
    (hd : ∀ σ H, Pv xs.length σ H → D.nx σ H) :
    ∃ W : Nat → Nat → L2.St → Hp → Prop, (∃ m, W 0 m σ H) ∧ ∀ i m σ H, W i m σ H → ((It3 K a b c).stop i H ∧ D.nx σ H) ∨ ((It3 K a b c).go i H ∧ ∃ N : L2.St → Hp → Prop, (∀ σ' H', N σ' H' → ∃ m', m' < m ∧ W (i + 1) m' σ' H') ∧
      ∀ x H', (It3 K a b c).yld i H x H' → g x σ H' fun σ2 H2 => tb { nx := N, rt := D.rt, bk := D.nx, ct := N } σ2 H2) := by
  refine ⟨fun i m σ H => Pv i σ H ∧ i + m = xs.length, ⟨xs.length, h0, Nat.zero_add _⟩, fun i m σ H ⟨hp, em⟩ => ?_⟩
  obtain ⟨qx, qy, qz⟩ := hq i σ H hp
  cases m with
  | zero =>
    have e : i = xs.length := em
    subst e
    exact .inl ⟨⟨xs, ys, zs, qx, qy, qz, Nat.le_refl _, by omega, by omega, .inl rfl⟩, hd σ H hp⟩
  | succ m =>
    have li : i < xs.length := by omega
    have hx := List.getElem?_eq_getElem li
    have hy := List.getElem?_eq_getElem (l := ys) (i := i) (by omega)
    have hz := List.getElem?_eq_getElem (l := zs) (i := i) (by omega)
    refine .inr ⟨⟨xs, ys, zs, _, _, _, qx, qy, qz, hx, hy, hz⟩, Pv (i + 1), fun σ' H' h' => ⟨m, Nat.lt_succ_self m, h', by omega⟩, ?_⟩
    rintro _ _ ⟨T, x, y, z, rfl, hT, rfl, ex, ey, ez⟩
    exact hs i x y z T σ H (ex xs qx) (ey ys qy) (ez zs qz) hp hT
end Bs
namespace Bs
open PySem PySem.Spec PyProof.Rows L2 GenW
/-! ### yield from a list -/
section
variable {prog : Program} {w : World} {A : Around} {E : Value → Shared → Prop} {s : Shared}
theorem sp_list_item {it l : Addr} {i : Nat} {items : Array Value} {x : Value} {Q : Option Value → Shared → Prop} (hit : s.heap.IsListIter it l i) (hl : s.heap.IsList l items) (hx : items[i]? = some x)
    (hQ : ∀ h', h'.IsListIter it l (i + 1) → Heap.SameBut it s.heap h' → Q (some x) { s with heap := h' }) : wpAny (model prog w) A (callSpecial? (.ref it) "__next__") Q E s := by
  obtain ⟨o, ho, hc, hd⟩ := id hit
  obtain ⟨ol, hol, _, nl, hdl⟩ := hl
  refine wpAny_callSpecial?_slot (name := Str.ofString "__next__") hit.typeIs slot_listiter_next (wpAny_call_entry slot_listiter_next hit.typeIs entry_listiter_next ?_ (args_listiter_next _))
  show wpAny _ _ (field (.ref it) 0 >>= _) _ _ s
  refine wpAny_bind (wpAny_field ho hd (x := .ref l) rfl ?_)
  show wpAny _ _ (if (Value.ref l == Value.none) = true then _ else _) _ _ s
  rw [if_neg (show ¬ ((Value.ref l == Value.none) = true) from Bool.false_ne_true)]
  show wpAny _ _ (field (.ref it) 1 >>= _) _ _ s
  refine wpAny_bind (wpAny_field ho hd (x := .int i 0) rfl ?_)
  show wpAny _ _ (seqItems? (.ref l) >>= _) _ _ s
  refine wpAny_bind (wpAny_seqItems hol hdl ?_)
  simp only [Int.toNat_natCast, hx]
  refine wpAny_bind (wpAny_setField ho hd (by simp) (wpAny_pure ⟨x, rfl, hQ _ ?_ (Heap.SameBut.update ..)⟩))
  exact ⟨_, Heap.get?_update_self _ ho (Obj.isFreed_of_fields (Obj.data_mapFields hd _)), (Obj.cls_mapFields ..).trans hc, by rw [Obj.data_mapFields hd]; simp [rawInt]⟩
theorem sp_list_end {it l : Addr} {i : Nat} {items : Array Value} {Q : Option Value → Shared → Prop} (hh : A.handled = none) (hit : s.heap.IsListIter it l i) (hl : s.heap.IsList l items) (hx : items[i]? = none)
    (hE : ∀ e h', StopX e h' → Heap.ExtBut it s.heap h' → E e { s with heap := h' }) : wpAny (model prog w) A (callSpecial? (.ref it) "__next__") Q E s := by
  obtain ⟨o, ho, hc, hd⟩ := id hit
  obtain ⟨ol, hol, _, nl, hdl⟩ := hl
  refine wpAny_callSpecial?_slot (name := Str.ofString "__next__") hit.typeIs slot_listiter_next (wpAny_call_entry slot_listiter_next hit.typeIs entry_listiter_next ?_ (args_listiter_next _))
  show wpAny _ _ (field (.ref it) 0 >>= _) _ _ s
  refine wpAny_bind (wpAny_field ho hd (x := .ref l) rfl ?_)
  show wpAny _ _ (if (Value.ref l == Value.none) = true then _ else _) _ _ s
  rw [if_neg (show ¬ ((Value.ref l == Value.none) = true) from Bool.false_ne_true)]
  show wpAny _ _ (field (.ref it) 1 >>= _) _ _ s
  refine wpAny_bind (wpAny_field ho hd (x := .int i 0) rfl ?_)
  show wpAny _ _ (seqItems? (.ref l) >>= _) _ _ s
  refine wpAny_bind (wpAny_seqItems hol hdl ?_)
  simp only [Int.toNat_natCast, hx]
  refine wpAny_bind (wpAny_rule (wpAny_bind (wpAny_setField ho hd (by simp) ?_)))
  show wpAny _ _ (newExc (.type "StopIteration") [] >>= _) _ _ _
  refine wpAny_bind ?_
  simp only [newExc, newTuple]
  refine wpAny_bind (wpAny_newObj_type ?_ (by size_fits))
  refine wpAny_bind (m := firstArgMember _ _) (wpAny_of_eq (a := Value.none) (by first | rfl | (simp only [firstArgMember]; rfl)) ?_)
  refine wpAny_newObj_type ?_ (by size_fits)
  simp only [raiseNew]
  refine wpAny_bind (wpAny_handled ?_)
  first | rw [show A.in1.handled = none from hh] | rw [hh]
  refine wpAny_bind (wpAny_pure (wpAny_throw ?_))
  refine hE _ _ ⟨_, _, _, rfl, Heap.get?_push_size _ rfl, rfl, rfl, ?_⟩ (((Heap.SameBut.update ..).extBut.push _).push _)
  first
    | rfl
    | (rw [Array.getElem?_append_left (by decide)]; rfl)
    | kernel_rfl
end
def tYfLst (te : TE) : TYf := fun σ H Q => te σ H fun x H1 => ∃ a xs, x = .ref a ∧ H1 a = some (.lst xs) ∧ Q xs H1
theorem close_lst : typeLookup (.type "list_iterator") "close" = pure none := by rw [typeLookup_type, builtinLookup_eq_fast]; kernel_rfl
theorem yf_lst {X : Cx} {e : Expr} {te : TE} (he : PE X e te) : YfE X e (tYfLst te) := by
  refine ⟨fun pins s σ H Q I h => ?_⟩
  refine thn (he.run pins s σ H _ I h) fun v s1 ⟨x, H1, I1, r1, a, xs, ex, ha, hq⟩ => ?_
  subst ex
  obtain rfl : v = Value.ref a := r1
  obtain ⟨hlen, its, cap, rits, ht0⟩ := (show ObjOk X.prog X.w H1 s1.heap a (.lst xs) from I1.hok a _ ha)
  have ht : s1.heap.IsList a its.toArray := ⟨_, ht0, rfl, _, rfl⟩
  have htl : a < s1.heap.objs.size := Heap.lt_size ht0
  refine ⟨"list", ht.typeIs, by decide, wpAny_pyIter_list ht ?_⟩
  have ksz : ∀ b o, s1.heap.get? b = some o → b ≠ s1.heap.objs.size := fun b o e => Nat.ne_of_lt (Heap.lt_size e)
  have kp : ∀ b o, s1.heap.get? b = some o → (s1.heap.push { cls := .type "list_iterator", data := .fields #[.ref a, .int 0 0] }).get? b = some o := fun b o e => Heap.get?_push_of_some _ e
  refine ⟨s1.heap.objs.size, H1, xs, fun j h => h.IsListIter s1.heap.objs.size a j ∧ h.IsList a its.toArray, rfl, I1.kept (t' := s1.toks) kp, .inr I1.sz, Nat.ne_of_gt I1.lt, fun y c hy => ?_, I1.hok.fresh (Nat.le_refl _), fun p hp => ?_,
    ⟨⟨_, Heap.get?_push_size _ rfl, rfl, rfl⟩, ⟨_, kp _ _ ht0, rfl, _, rfl⟩⟩, ⟨⟨"list_iterator", fun j h q => ?_, close_lst, by decide⟩, fun j h h' q hk => ?_, fun A' j x s2 Q' E' hA hx q hQ => ?_, fun A' s2 Q' E' hA q hE => ?_⟩, hq⟩
  · obtain ⟨v, o, ho, _⟩ := I1.cell y c hy
    exact ksz c o ho
  · exact ksz p.1 _ (I1.pin p hp).1
  · obtain ⟨⟨o, ho, hc, _⟩, _⟩ := q
    exact ⟨o, ho, hc⟩
  · obtain ⟨⟨o, ho, r⟩, o2, ho2, r2⟩ := q
    exact ⟨⟨o, hk _ o (.inl rfl) ho, r⟩, o2, hk _ o2 (.inr (by rw [ha]; exact fun z => by cases z)) ho2, r2⟩
  · obtain ⟨q1, q2⟩ := q
    obtain ⟨u, hu, ru⟩ := rits.get hx
    have hne : a ≠ s1.heap.objs.size := Nat.ne_of_lt htl
    refine sp_list_item q1 q2 (x := u) (by simpa using hu) fun h' q1' hs => hQ u h' s2.toks ru ⟨q1', ?_⟩ fun b o hb eb => hs.extBut b o hb eb
    obtain ⟨o2, ho2, r2⟩ := q2
    exact ⟨o2, hs.extBut _ _ hne ho2, r2⟩
  · obtain ⟨q1, q2⟩ := q
    have hnone : its.toArray[xs.length]? = none := by
      have e := rits.length
      have e2 : its[xs.length]? = none := List.getElem?_eq_none_iff.mpr (by omega)
      simpa using e2
    exact sp_list_end hA q1 q2 hnone fun e h' hS hk => hE e h' s2.toks hS fun b o hb eb => hk b o hb eb
/-! ### list(d.values()) -/
theorem kv_at {κ : Type} : ∀ {kvs : List (κ × V)} {vs : List (κ × Value)}, KV kvs vs → ∀ {j : Nat} {x : V} {k : κ} {w : Value}, (kvs.map fun kv => kv.2)[j]? = some x → vs[j]? = some (k, w) → RelV x w
  | _, _, .cons r t, 0, _, _, _, h1, h2 => by
    simp only [List.map_cons, List.getElem?_cons_zero, Option.some.injEq] at h1 h2
    rw [← h1]
    have e := r.2
    rw [h2] at e
    exact e
  | _, _, .cons r t, j + 1, _, _, _, h1, h2 => kv_at t (j := j) (by simpa using h1) (by simpa using h2)
  | _, _, .nil, _, _, _, _, _, h2 => by simp at h2
def tLV (td : TE) : TE := fun σ H Q => td σ H fun x H1 => ∃ d kvs, x = .ref d ∧ H1 d = some (.dK kvs) ∧ ∀ q, H1 q = none → Q (.ref q) (upd H1 q (.lst (kvs.map fun kv => kv.2)))
theorem pe_listVals {X : Cx} {e : Expr} {td : TE} {p pos apos cpos : Pos} (hc : X.calm = true) (hg : Gl X "list") (hmg : X.mg "list" = none) (he : PE X e td)
    (hbase : attributeBase e "values" X.env (eval e X.env) = eval e X.env := by rfl) (hline : (apos.endLine == cpos.line) = true := by rfl)
    (hst : starEach [.Call (.Attribute e "values" apos) [] [] cpos] X.env = (false, eval (.Call (.Attribute e "values" apos) [] [] cpos) X.env) :: starEach [] X.env := by rfl) :
    PE X (.Call (.Name "list" p) [.Call (.Attribute e "values" apos) [] [] cpos] [] pos) (tLV td) := by
  refine ⟨fun pins s σ H Q I h => ?_⟩
  refine wpAny_Call_Name_kw (ld_blt I hg hmg boot_list ?_ (by decide) (by decide))
  refine PyProof.Rows.callWith_type1 ?_ hst rfl
  rw [hst]
  show wpAny _ _ (spliced ((false, eval (.Call (.Attribute e "values" apos) [] [] cpos) X.env) :: backTo pos (starEach [] X.env))) _ _ s
  refine Calls.spliced_cons ?_
  refine wpAny_Call_method (T := "dict") (id := "dict.values") hbase rfl hline F.plainAttrs_dict F.slot_dict_values F.type_dict_values (thn (he.run pins s σ H _ I h) fun u s1 ⟨x, H1, I1, rx, d, kvs, ex, hd, q⟩ => ?_)
  subst ex
  obtain rfl : u = Value.ref d := rx
  obtain ⟨z, lo, vs, rk, hdd⟩ := (show ObjOk X.prog X.w H1 s1.heap d (.dK kvs) from I1.hok d _ hd)
  obtain ⟨ep, hat⟩ := hdd.dictAt
  have hl : kvs.length = vs.length := Paired.length rk
  refine ⟨hdd.typeIs, hdd.mapOf.noDict, ?_⟩
  show wpAny _ _ (callWith cpos (.builtin "dict.values") [.ref d] [] []) _ X.xe s1
  refine method_meetsIn F.slot_dict_values F.entry_dict_values rfl (PySem.evalArgs_none ⟨rfl, hdd.typeIs, F.args_dict_values_1 _, _, meets_dict_values (mixKind X.prog X.w) d lo, ⟨vs, hdd⟩, ?_⟩)
  refine Calls.spliced_nil ?_
  have kp : ∀ b o, s1.heap.get? b = some o → (s1.heap.push { cls := .type "dict_values", data := .fields #[.ref d] }).get? b = some o := fun b o e => Heap.get?_push_of_some _ e
  have I2 : Inv X pins σ H1 { s1 with heap := s1.heap.push { cls := .type "dict_values", data := .fields #[.ref d] } } := I1.kept (t' := s1.toks) kp
  refine PySem.W.kdl_call (s := { s1 with heap := s1.heap.push { cls := .type "dict_values", data := .fields #[.ref d] } }) (PySem.W.kdl_values (knd := mixKind X.prog X.w) (kvs := vs) (ep := ep) (r := s1.heap.objs.size) (d := d)) (I2.ok.hd hc) ⟨⟨_, Heap.get?_push_size _ rfl, rfl, rfl⟩, hat.push _⟩ (by rw [← hl]; exact z) fun h' tk acc' c' hkeep hS hacc => ?_
  refine ⟨.ref _, upd H1 _ (.lst (kvs.map fun kv => kv.2)), I2.laid hkeep (Nat.le_refl _) (show ObjOk X.prog X.w _ _ _ (.lst (kvs.map fun kv => kv.2)) from ⟨?_, acc'.toList, c', ?_, ?_⟩), rfl, q _ (I2.hok.fresh (Nat.le_refl _))⟩
  · rw [List.length_map]; exact z
  · have el : acc'.toList.length = acc'.size := by simp
    refine vals_of_at (by rw [List.length_map, el, hacc.1, hl]) fun j x w h1 h2 => ?_
    obtain ⟨k, hky⟩ := hacc.2 j w (by rw [← Array.getElem?_toList]; exact h2)
    exact kv_at rk h1 hky
  · rw [Array.toArray_toList]; exact hS
end Bs
/-! ### != of two lists of tuples that hold the same int and the same object -/
namespace Bs
open PySem PySem.Spec PyProof.Rows L2 PySem.SeqAt
section
variable {X : Cx}
def TwinT (K : PySem.W.Frag) (H : Hp) (v z : V) : Prop := ∃ (t a : Addr) (n : Int) (r : Addr), v = .ref t ∧ z = .ref a ∧ SqT K H t [.int n, .ref r] ∧ SqT K H a [.int n, .ref r]
def rNeTs (K : PySem.W.Frag) : R2 := fun x y H Q => ∃ (l b : Addr) (vs xs : List V), x = .ref l ∧ y = .ref b ∧ SqL K H l vs ∧ SqL K H b xs ∧ vs.length = xs.length ∧ (∀ (i : Nat) (v z : V), vs[i]? = some v → xs[i]? = some z → TwinT K H v z) ∧ Q (.bl false) H
theorem twin_eq {A : Around} {pins : List (Addr × Obj)} {s : Shared} {σ : L2.St} {H : Hp} {v z : V} {u w : Value} (I : Inv X pins σ H s) (h : TwinT X.K H v z) (ru : RelV v u) (rw_ : RelV z w) (hu : A.units + 8 < cLine) : EqAt A s u w true := by
  obtain ⟨t, a, n, r, rfl, rfl, ht, ha⟩ := h
  cases ru
  cases rw_
  by_cases c : t = a
  · subst c; exact EqAt.same _
  obtain ⟨its, r1, h1, _⟩ := I.tuple ht
  obtain ⟨jts, r2, h2, _⟩ := I.tuple ha
  cases r1 with
  | cons p1 q1 =>
  cases q1 with
  | cons p2 q2 =>
  cases q2
  cases r2 with
  | cons p3 q3 =>
  cases q3 with
  | cons p4 q4 =>
  cases q4
  obtain ⟨k1, rfl⟩ := p1
  obtain ⟨k3, rfl⟩ := p3
  cases p2
  cases p4
  have e := RcAt.tuples (A := A) (s := s) (e := fun _ => true) h1 h2 (by omega) (fun j j1 j2 => by
    match j, j1, j2 with
    | 0, _, _ =>
      have z := EqAt.int_int (A := A.in1) (s := s) n k1 n k3
      rw [beq_self_eq_true] at z
      exact z
    | 1, _, _ => exact EqAt.same _)
  exact EqAt.of_refs c e
theorem op_neTs {K : PySem.W.Frag} (hK : X.K = K) (hu : X.A.units + 64 < cLine) : OpR X (compareOp .NotEq) (rNeTs K) := by
  subst hK
  intro pins s σ H x y v u Q I rx ry h
  obtain ⟨l, b, vs, xs, rfl, rfl, hl, hb, hn, ht, q⟩ := h
  cases rx
  cases ry
  obtain ⟨its, r1, h1, _⟩ := I.list hl
  obtain ⟨jts, r2, h2, _⟩ := I.list hb
  have n1 := r1.length
  have n2 := r2.length
  have e := RcNeAt.lists (A := X.A) (s := s) (e := fun _ => true) h1.isList h2.isList (by simp only [List.size_toArray]; omega) (by omega) (fun j j1 j2 => by
    have g1 : j < its.length := by simpa using j1
    have g2 : j < jts.length := by simpa using j2
    obtain ⟨u1, a1, b1⟩ := r1.get (List.getElem?_eq_getElem (show j < vs.length by omega))
    obtain ⟨u2, a2, b2⟩ := r2.get (List.getElem?_eq_getElem (show j < xs.length by omega))
    have z := twin_eq (A := X.A.in1) I (ht j _ _ (List.getElem?_eq_getElem (show j < vs.length by omega)) (List.getElem?_eq_getElem (show j < xs.length by omega))) b1 b2 (by show X.A.units + 1 + 8 < cLine; omega)
    rw [List.getElem?_eq_getElem g1] at a1
    rw [List.getElem?_eq_getElem g2] at a2
    cases a1
    cases a2
    simpa using z)
  have al : ((List.range its.toArray.size).all fun _ => true) = true := by simp
  rw [al] at e
  exact e X.prog X.w _ _ ⟨.bl false, H, I, rfl, q⟩
end
end Bs
/-! ### defs that show things: what is known of the guards around them -/
namespace Gd
open PySem PySem.Spec PyProof.Rows L2
variable {P : Program} {w : World} {K : PySem.W.Frag} {mg : Str → Option Value} {base : Heap} {X : Cx}
/-- nothing is being shown around -/
def Un (A : Around) : Prop := A.guards = some []
structure FnG (P : Program) (w : World) (K : PySem.W.Frag) (mg : Str → Option Value) (base : Heap) (k : Nat) (f : Addr) (fd : FuncData) (ps : List Str) (sp : Sp) : Prop where
  many : ∀ vs H Q E, sp vs H Q E → vs.length = ps.length
  does : ∀ (A : Around) (up : List Env) (s : Shared) (H : Hp) (g : Args) (us : List Value) (vs : List V) (Q : VK) (E : XK), Un A → Room k A → Env0 P w K mg base A up s H → BindsTo s fd g (ps.zip us) → Vals vs us → sp vs H Q E →
    codeAny (model P w) A (.call (.ref f) g) (CR C8.CX0 up P w H s Q E) s
theorem FnG.of {k : Nat} {f : Addr} {fd : FuncData} {ps : List Str} {sp : Sp} (F : FnOk P w K mg base C8.CX0 k f fd ps sp) : FnG P w K mg base k f fd ps sp :=
  ⟨F.len, fun A up s H g us vs Q E _ hr e b r q => F.run A up s H g us vs Q E hr e b r q⟩
theorem FnG.mono {j k : Nat} {f : Addr} {fd : FuncData} {ps : List Str} {sp : Sp} (F : FnG P w K mg base j f fd ps sp) (h : j ≤ k) : FnG P w K mg base k f fd ps sp :=
  ⟨F.many, fun A up s H g us vs Q E un hr e b r q => F.does A up s H g us vs Q E un (hr.mono h) e b r q⟩
/-- the promise of such a def, by its body -/
theorem mkG {x qual : Str} {params : Arguments} {body : List Stmt} {scope : Scope} {dvs : List V} {kws : List (Str × V)} {f : Addr} {fd : FuncData} {N ps : List Str} {k : Nat} {sp : Sp} (F : FunD K x qual params body scope dvs kws f fd) (S : FnScope N ps scope) (many : ∀ vs H Q E, sp vs H Q E → vs.length = ps.length)
    (does : ∀ (cdv : Value) (A : Around) (up : List Env) (s : Shared) (H : Hp) (vs : List V) (Q : VK) (E : XK), Un (A.deeper (envOfC qual scope s.heap.objs.size f cdv)) → Room k (A.deeper (envOfC qual scope s.heap.objs.size f cdv)) → sp vs H Q E →
      ∃ t, PSs (cxOf C8.CX0 P w K mg base N qual scope f cdv A up s H E).nox body t ∧ t { nx := fun _ H' => Q .non H', rt := Q } (start N vs) H) : FnG P w K mg base (k + 1) f fd ps sp := by
  obtain ⟨oc, od, dV, kV, doc, pm, an, cdv, ct, osl, rfl, lk, hcd, _, _⟩ := F.ex
  refine ⟨many, fun A up s H g us vs Q E un hr e b r q => ?_⟩
  have len := many _ _ _ _ q
  have kin : K.In s.heap := e.mod.kin.keeps fun b o z => (e.bs b o z).1
  have nol : s.heap.NoLimit := e.mod.nolimit.keeps fun b o z => (e.bs b o z).1
  refine codeAny_call_function hr.depth (kin _ _ lk) rfl S.co S.gen rfl (PySem.W.codeRec_of kin hcd) (b _ _ _ _ ?_)
  refine wpAny_newFunctionEnv_cells S.kind (fun y hy => ?_) fun env he s1 z => ?_
  · rcases S.par y.1 (List.of_mem_zip (a := y.1) (b := y.2) hy).1 with l | c
    · exact .inl l
    · exact .inr ⟨c, PySem.W.cellsFrom_some _ _ _ (.inl c)⟩
  · subst he
    obtain ⟨t, ht, h⟩ := does cdv A up s H vs Q E un (hr.deeper _) q
    have ht := ht.nox
    have J : Inv (cxOf C8.CX0 P w K mg base N qual scope f cdv A up s H E) [] (start N vs) H s1 := inv_start S hr.hd e len r z
    refine ⟨nol.keeps z.toInCall.keep, codeAny_func (wpAny_mono (ht.run [] s1 (start N vs) H _ J h) (fun fl s2 hs => ?_) fun _ _ hs => hs)⟩
    match fl, hs with
    | .ret _, ⟨v, _, H2, J2, rv, q2⟩ => exact ⟨v, H2, J2.os, J2.bare, J2.base, J2.hok, rv, q2⟩
    | .next, ⟨_, H2, J2, q2⟩ => exact ⟨.non, H2, J2.os, J2.bare, J2.base, J2.hok, rfl, q2⟩
    | .brk, ⟨_, _, _, q2⟩ => exact q2.elim
    | .cont, ⟨_, _, _, q2⟩ => exact q2.elim
/-- such a def, called by its name -/
structure CalG (P : Program) (w : World) (K : PySem.W.Frag) (mg : Str → Option Value) (base : Heap) (k : Nat) (x : Str) (sp : Sp) (dvs : List V) : Prop where
  ex : ∃ (f : Addr) (fd : FuncData) (ps : List Str) (ds : List Value), FnG P w K mg base k f fd ps sp ∧ mg x = some (.ref f) ∧ PySem.W.keepIn K (.ref f) = true ∧ Binds K fd ps ds ∧ Vals dvs ds
theorem pe_cG {k j : Nat} {x : Str} {sp : Sp} {dvs : List V} {p pos : Pos} {e : Expr} {es : List Expr} {t : TA} (c : CalG X.prog X.w X.K X.mg X.base k x sp dvs) (un : Un X.A) (hr : Room j X.A) (hk : k ≤ j) (hg : Gl X x) (ha : PA X (e :: es) t)
    (hdb : (x == ("__debug__" : Str)) = false := by decide) (he : starEach (e :: es) X.env = (false, eval e X.env) :: starEach es X.env := by rfl) (hpl : (backTo pos (starEach es X.env)).any (·.1) = false := by rfl) :
    PE X (.Call (.Name x p) (e :: es) [] pos) (tCall sp dvs C8.E0 t) := by
  obtain ⟨f, fd, ps, ds, F, hm, kp, b, d⟩ := c.ex
  refine ⟨fun pins s σ H Q I h => wpAny_Call_Name_kw (ld_glob I hg hm ?_ hdb)⟩
  refine PySem.W.callWith_K (h₀ := X.base) I.ok.mod.kin kp (thn (ha.run pos pins s σ H _ I h) fun us s1 ⟨vs, H1, I1, r, q⟩ => ⟨I1.kIn, ?_⟩) he hpl
  have r2 : Vals (vs ++ dvs) (us ++ ds) := r.append d
  refine wpAny_call (codeAny_mono (F.does X.A X.stack s1 H1 ⟨us, []⟩ (us ++ ds) (vs ++ dvs) Q C8.E0 un (hr.mono hk) I1.env0 (b s1 us I1.kIn (by rw [← r2.length]; exact F.many _ _ _ _ q)) r2 q) fun res s2 hq => ?_)
  match res, hq with
  | .error e, hq => exact C8.pass0 (E := C8.E0) pins σ H1 s1 e s2 I1 hq
  | .ok (.ret _), hq => exact I1.after hq
  | .ok .next, hq => exact hq.elim
  | .ok .brk, hq => exact hq.elim
  | .ok .cont, hq => exact hq.elim
/-- repr of lists and tuples -/
def rRepr (K : PySem.W.Frag) : List V → Hp → VK → Prop := fun vs H Q => ∃ (v : V) (d : PyData), vs = [v] ∧ Dp K H v d ∧ PyProof.Rows.isDisplay d = true ∧ d.showable = true ∧ d.hasDict = false ∧ d.depth ≤ 60 ∧ d.shown.length ≤ sizeLine ∧ Q (.str d.shown) H
theorem call_reprD (hK : X.K = K) (un : Un X.A) (hu : X.A.units + 64 < cLine) : CallR X (.builtin "repr") (rRepr K) := by
  subst hK
  intro pins s σ H vs us Q I r h
  obtain ⟨v, d, rfl, hd, hi, hs, hn, h6, hl, q⟩ := h
  obtain ⟨u, rfl, ru⟩ := vals1 r
  obtain ⟨as, r1⟩ := Dp.reads I d v u hd ru
  obtain ⟨a, rfl⟩ := PyProof.Rows.isRef_of_reads r1 hi
  exact repr_of_reads' r1 hs (PyData.noDict_hsm hn) un (by omega) (fun _ _ e => e) (fun h' t tk hk => ⟨.str d.shown, H, I.kept hk, ⟨t, rfl⟩, q⟩) hl
end Gd
namespace Gd
open PySem PySem.Spec PyProof.Rows L2
variable {P : Program} {w : World} {K : PySem.W.Frag} {mg mb : Str → Option Value} {k : Nat} {fa a : Addr} {fd : FuncData} {x : Str} {sp : Sp} {s : Shared} {vs : List Value} {ns : List Int}
/-- what a law's end wants of its call -/
abbrev Done (s : Shared) (r : Result) (s' : Shared) : Prop := r = .ok (.ret (.bool true)) ∧ OldK s.heap s'.heap ∧ s'.os = s.os ∧ AllBare s'.gens
theorem from_heap {H : Hp} (hO : Only H) (hS : SqL K H a (ns.map V.int)) (hok : HOk P w H s.heap) (hA : ∀ b, H b ≠ none → b = a) (hK : H a ≠ none → K.lookup a = none)
    (kin : K.In s.heap) (hm : s.heap.Ns mainGlobals mg) (hb : s.heap.Ns builtinsNs mb) (hbb : ∀ x : Str, x ≠ "__name__" → mb x = bootBuiltins x) (lim : s.heap.NoLimit) (bare : s.gens = #[])
    (ha : s.heap.get? a = some { cls := .type "list", data := .seq vs.toArray }) (hr : Room k callerA)
    (F : ∀ base : Heap, K.In base → base.Ns mainGlobals mg → FnG P w K mg base k fa fd [x] sp) (bind : ∀ (s : Shared) (u : Value), BindsTo s fd ⟨[u], []⟩ [(x, u)])
    (hsp : sp [.ref a] H (fun v _ => v = .bl true) fun _ _ _ => False) :
    codeAny (model P w) callerA (.call (.ref fa) ⟨[.ref a], []⟩) (Done s) s := by
  have clean : ∀ {b : Addr} {o : Obj}, s.heap.get? b = some o → (b = a → False) → (hidT s.heap H).get? b = some o := fun {b o} e n => hidT_get e (by
    cases q : H b with
    | none => rfl
    | some u => exact (n (hA b (by rw [q]; exact fun z => by cases z))).elim)
  have dict_ne : ∀ {b : Addr} {o : Obj} {es : Array DictEntry} {ep : Nat}, s.heap.get? b = some o → o.data = .dict es ep → b = a → False := fun {b o es ep} e d q => by
    subst q
    rw [ha] at e
    cases e
    cases d
  have ns_ : ∀ {b : Addr} {m : Str → Option Value}, s.heap.Ns b m → (hidT s.heap H).Ns b m := fun ⟨o, es, ep, e, d, r⟩ => ⟨o, es, ep, clean e (dict_ne e d), d, r⟩
  have kin2 : K.In (hidT s.heap H) := fun b o e => hidT_get (kin b o e) (by
    cases q : H b with
    | none => rfl
    | some u =>
      have z := hA b (by rw [q]; exact fun z => by cases z)
      subst z
      rw [hK (by rw [q]; exact fun z => by cases z)] at e
      cases e)
  obtain ⟨mc, c1, c2⟩ := lim
  have M : Mod K mg (hidT s.heap H) := ⟨kin2, ns_ hm, ⟨mb, ns_ hb, hbb⟩, mc, ns_ c1, c2⟩
  have E0 : Env0 P w K mg (hidT s.heap H) callerA [] s H := ⟨rfl, M, fun b o e => of_hidT e, Nat.le_of_eq (hidT_size _ _), trivial, (fun b h => by cases h), hok, .of_eq bare⟩
  refine codeAny_mono ((F _ kin2 (ns_ hm)).does callerA [] s H ⟨[.ref a], []⟩ [.ref a] [.ref a] _ _ rfl hr E0 (bind s (.ref a)) (.cons rfl .nil) hsp) fun r s' h => ?_
  match r, h with
  | .error _, h => exact h.elim
  | .ok .next, h => exact h.elim
  | .ok .brk, h => exact h.elim
  | .ok .cont, h => exact h.elim
  | .ok (.ret u), ⟨v, H', os, br, un, hok', r', q⟩ =>
    cases q
    cases r'
    refine ⟨rfl, OldK.of_keep fun b o e => ?_, os, br⟩
    rcases hO b with z | ⟨ob, xs, z⟩
    · exact un.keep b o e z (fun m => by cases m) (fun m => by cases m)
    · obtain ⟨e1, _⟩ := hok b _ z
      obtain ⟨e2, _⟩ := hok' b _ (un.frzs b ob _ z)
      rw [e] at e1
      cases e1
      exact e2
/-- the end of a law whose def shows things -/
theorem lawG {l : PySem.W.OpenLaw} {n : Nat} {q : Program} {loose : List Str} {XP : (Str → Option Value) → Heap → Prop} {YP : World → Heap → Prop} {d : DefRec} (hn : l.most = some n) (hn2 : n ≤ sizeLine) (hdf : d.params.defaults = []) (hr : Room k callerA)
    (F : ∀ (w : World) (mg : Str → Option Value) (fa : Addr) (h : Heap), YP w h → h.Ns mainGlobals mg → mg d.name = some (.ref fa) → ∃ (K : PySem.W.Frag) (fd : FuncData) (sp : Sp), K.In h ∧ (∀ (s : Shared) (u : Value), BindsTo s fd ⟨[u], []⟩ [(x, u)]) ∧
      (∀ (H : Hp) (a : Addr) (ns : List Int), ns.length ≤ n → Only H → SqL K H a (ns.map V.int) → sp [.ref a] H (fun v _ => v = .bl true) fun _ _ _ => False) ∧ ∀ base : Heap, K.In base → base.Ns mainGlobals mg → FnG l.prog w K mg base k fa fd [x] sp) :
    PySem.W.WalkO q loose XP YP l.row.toRowW d [] (fun f vs => PySem.call f vs) := by
  refine Att.attach_call hn hdf fun w s₀ s mg mb fa o pm cd doc a vs ns G Y _ _ _ hmg ha hi hlen bare => ?_
  obtain ⟨K, fd, sp, kin, bind, hsp, hF⟩ := F w mg fa _ Y G.T.g hmg
  have rv := vals_ints hi
  have lz : ns.length ≤ sizeLine := Nat.le_trans hlen hn2
  cases hk : K.lookup a with
  | some o =>
    have e := kin a o hk
    rw [ha] at e
    cases e
    have hS : SqL K (fun _ => none) a (ns.map V.int) := .inr ⟨_, vs.toArray, _, hk, rfl, rfl, rfl, by rw [List.size_toArray, hi.length]; exact lz, by simpa using rv⟩
    exact from_heap (fun _ => .inl rfl) hS (fun _ _ z => by cases z) (fun _ z => absurd rfl z) (fun z => absurd rfl z) kin G.T.g G.T.b G.T.builtins G.T.nolimit bare ha hr hF bind (hsp _ a ns hlen (fun _ => .inl rfl) hS)
  | none =>
    have hS : SqL K (upd (fun _ => none) a (.frz { cls := .type "list", data := .seq vs.toArray } (.lst (ns.map V.int)))) a (ns.map V.int) := .inl (.inr ⟨_, upd_same⟩)
    have hO : Only (upd (fun _ => none) a (.frz { cls := .type "list", data := .seq vs.toArray } (.lst (ns.map V.int)))) := fun b => by
      by_cases c : b = a
      · subst c; exact .inr ⟨_, _, upd_same⟩
      · exact .inl (by rw [upd_ne c])
    refine from_heap hO hS (fun b u z => ?_) (fun b z => ?_) (fun _ => hk) kin G.T.g G.T.b G.T.builtins G.T.nolimit bare ha hr hF bind (hsp _ a ns hlen hO hS)
    · by_cases c : b = a
      · subst c
        rw [upd_same] at z
        cases z
        exact ⟨ha, by rw [List.length_map]; exact lz, vs, _, rv, ha⟩
      · rw [upd_ne c] at z
        cases z
    · by_cases c : b = a
      · exact c
      · rw [upd_ne c] at z
        exact absurd rfl z
end Gd
/-! ### C(), a class without __init__ -/
namespace Gd
open PySem PySem.Spec PyProof.Rows L2 PySem.W
variable {X : Cx} {C : Addr} {x : Str} {p pos : Pos}
structure New0 (K : PySem.W.Frag) (C : Addr) : Prop where
  makes : makesIn K C = true
  kp : keepIn K (.ref C) = true
  init : findIn K (.ref C) "__init__" = some (some (.builtin "object.__init__"))
def tNew0 (C : Addr) : TE := fun _ H Q => ∀ x dx, H x = none → H dx = none → dx ≠ x → Q (.ref x) (upd (upd H dx (.own x)) x (.ins C dx []))
theorem pe_new0 (N : New0 X.K C) (hg : Gl X x) (hm : X.mg x = some (.ref C)) (hdb : (x == ("__debug__" : Str)) = false := by decide) : PE X (.Call (.Name x p) [] [] pos) (tNew0 C) := by
  refine ⟨fun pins s σ H Q I h => wpAny_Call_Name_kw (ld_glob I hg hm ?_ hdb)⟩
  have hq := h (s.heap.objs.size + 1) s.heap.objs.size (I.hok.fresh (Nat.le_succ _)) (I.hok.fresh (Nat.le_refl _)) (Nat.ne_of_lt (Nat.lt_succ_self _))
  have I2 := Inv.made (C := C) I
  have Y := makes_of (M := model X.prog X.w) I.kIn N.makes
  have lk : ((s.heap.push emptyDict).push (instObj C s.heap.objs.size)).get? (s.heap.objs.size + 1) = some (instObj C s.heap.objs.size) := by
    have e : s.heap.objs.size + 1 = (s.heap.push emptyDict).objs.size := (Heap.size_push _ _).symm
    rw [e]
    exact Heap.get?_push_size _ rfl
  have isC : Looks (model X.prog X.w) ((s.heap.push emptyDict).push (instObj C s.heap.objs.size)) (typeOf (.ref (s.heap.objs.size + 1))) (.ref C) := (Looks.ld lk).andThen .now
  have isO : Looks (model X.prog X.w) ((s.heap.push emptyDict).push (instObj C s.heap.objs.size)) (isInstance (.ref (s.heap.objs.size + 1)) (.type "object")) true :=
    isC.andThen (Y.top.keeps fun b o e => Heap.get?_push_of_some _ (Heap.get?_push_of_some _ e))
  refine callWith_K0 I.kIn N.kp (wpAny_call (make_map0 I.kIn N.makes N.init (fun self => Looks.of_pure (oi_bind self)) ?_))
  refine codeAny_call_builtin oi_plain entry_oi (check_slot oi_kind oi_split isO (oi_args _) ?_)
  rw [oi_run]
  exact wpAny_pure ⟨rfl, .ref _, _, I2, rfl, hq⟩
end Gd
namespace Bs
open PySem PySem.Spec PyProof.Rows L2 SX
variable {P : Program} {w : World} {K : PySem.W.Frag} {mg : Str → Option Value} {base : Heap}
/-! ### the part of the heap that never changes again -/
def KpO (p : Option Addr) (H H' : Hp) : Prop := ∀ b o, H b = some o → some b ≠ p → H' b = some o
structure Step (p : Option Addr) (G H G' H' : Hp) : Prop where
  gg : Same G G'
  gh : Same G' H'
  new : ∀ b, G' b ≠ none → G b ≠ none ∨ H b = none
  kp : KpO p H H'
  pp : ∀ b, some b = p → H b ≠ none → H' b ≠ none
section
variable {p : Option Addr} {G H G1 H1 G2 H2 : Hp} {q : Addr} {o : HO}
theorem Step.refl (h : Same G H) : Step p G H G H := ⟨Same.refl G, h, fun b hb => .inl hb, fun b o e _ => e, fun b _ e => e⟩
theorem Step.keep (a : Step p G H G1 H1) {b : Addr} (hb : H b ≠ none) : H1 b ≠ none := by
  by_cases e : some b = p
  · exact a.pp b e hb
  · cases eh : H b with
    | none => exact absurd eh hb
    | some o => rw [a.kp b o eh e]; exact fun z => by cases z
theorem Step.free (a : Step p G H G1 H1) {b : Addr} (hb : H1 b = none) : H b = none := by
  cases eh : H b with
  | none => rfl
  | some o => exact absurd hb (a.keep (by rw [eh]; exact fun z => by cases z))
theorem Step.trans (a : Step p G H G1 H1) (b : Step p G1 H1 G2 H2) : Step p G H G2 H2 where
  gg := a.gg.trans b.gg
  gh := b.gh
  new c hc := by
    rcases b.new c hc with h | h
    · exact a.new c h
    · exact .inr (a.free h)
  kp c o e n := b.kp c o (a.kp c o e n) n
  pp c e h := b.pp c e (a.pp c e h)
theorem Step.out (a : Step p G H G1 H1) {b : Addr} (h1 : G b = none) (h2 : H b ≠ none) : G1 b = none := by
  cases e : G1 b with
  | none => rfl
  | some o =>
    rcases a.new b (by rw [e]; exact fun z => by cases z) with h | h
    · exact absurd h1 h
    · exact absurd h h2
theorem same_none (h : Same G H) (hq : H q = none) : G q = none := h.free hq
/-- a new object that will never change -/
theorem Step.new_ (a : Step p G H G1 H1) (hq : H1 q = none) : Step p G H (upd G1 q o) (upd H1 q o) where
  gg := Same.new a.gg (same_none a.gh hq)
  gh b u e := by
    by_cases c : b = q
    · subst c; rw [upd_same] at e ⊢; exact e
    · rw [upd_ne c] at e ⊢; exact a.gh b u e
  new b hb := by
    by_cases c : b = q
    · subst c; exact .inr (a.free hq)
    · rw [upd_ne c] at hb; exact a.new b hb
  kp b u e n := by
    have h := a.kp b u e n
    rw [upd_ne (ne_of_none h hq)]; exact h
  pp b e h := by
    have z := a.pp b e h
    have c : b ≠ q := fun c => z (by rw [c]; exact hq)
    rw [upd_ne c]; exact z
/-- an object that may change stands or changes at q, which was free at the start -/
theorem Step.loc (a : Step p G H G1 H1) (hq : H q = none) (gq : G1 q = none) : Step p G H G1 (upd H1 q o) where
  gg := a.gg
  gh b u e := by rw [upd_ne (ne_of_none e gq)]; exact a.gh b u e
  new := a.new
  kp b u e n := by rw [upd_ne (ne_of_none e hq)]; exact a.kp b u e n
  pp b e h := by
    have c : b ≠ q := fun c => h (by rw [c]; exact hq)
    rw [upd_ne c]; exact a.pp b e h
/-- what stands at a local q will never change again -/
theorem Step.freeze (a : Step p G H G1 H1) (hq : H q = none) (h : H1 q = some o) (gq : G1 q = none) : Step p G H (upd G1 q o) H1 where
  gg := Same.new a.gg gq
  gh b u e := by
    by_cases c : b = q
    · subst c; rw [upd_same] at e; rw [h]; exact e
    · rw [upd_ne c] at e; exact a.gh b u e
  new b hb := by
    by_cases c : b = q
    · subst c; exact .inr hq
    · rw [upd_ne c] at hb; exact a.new b hb
  kp := a.kp
  pp := a.pp
theorem Step.same (a : Step none G H G1 H1) : Same H H1 := fun b o e => a.kp b o e (fun z => by cases z)
theorem Step.some_ {c : Addr} (a : Step none G H G1 H1) : Step (some c) G H G1 H1 := ⟨a.gg, a.gh, a.new, fun b o e _ => a.same b o e, fun b _ h => by
  cases eh : H b with
  | none => exact absurd eh h
  | some o => rw [a.same b o eh]; exact fun z => by cases z⟩
theorem Kp.step {c : Addr} (k : Kp c H H1) (h : Same G H) (gc : G c = none) (hc : H c ≠ none → H1 c ≠ none) : Step (some c) G H G H1 where
  gg := Same.refl G
  gh b o e := k b o (h b o e) (ne_of_none e gc)
  new b hb := .inl hb
  kp b o e n := k b o e (fun z => n (by rw [z]))
  pp b e h := by rw [Option.some.inj e] at h ⊢; exact hc h
theorem Step.kpc {c : Addr} (a : Step (some c) G H G1 H1) : Kp c H H1 := fun b o e n => a.kp b o e fun z => n (Option.some.inj z)
end
/-- the pen stands at p, outside of what never changes -/
structure Ps (K : PySem.W.Frag) (G H : Hp) (p : Addr) (n : Nat) : Prop where
  gh : Same G H
  out : G p = none
  pen : Pen K H p n
theorem Ps.step {G H G1 H1 : Hp} {p : Addr} {n m : Nat} (a : Ps K G H p n) (s : Step (some p) G H G1 H1) (h : Pen K H1 p m) : Ps K G1 H1 p m := ⟨s.gh, s.out a.out a.pen.there, h⟩
theorem Ps.stepN {G H G1 H1 : Hp} {p : Addr} {n : Nat} (a : Ps K G H p n) (s : Step none G H G1 H1) : Ps K G1 H1 p n := ⟨s.gh, s.out a.out a.pen.there, a.pen.same s.same⟩
theorem Ps.draw {G H H1 : Hp} {p : Addr} {n : Nat} (a : Ps K G H p n) (k : Kp p H H1) (h : Pen K H1 p (n + 1)) : Step (some p) G H G H1 ∧ Ps K G H1 p (n + 1) := by
  have s : Step (some p) G H G H1 := Kp.step k a.gh a.out fun _ => h.there
  exact ⟨s, a.step s h⟩
theorem Ps.new_ {G H : Hp} {p q : Addr} {n : Nat} {o : HO} (a : Ps K G H p n) (hq : H q = none) : Step (some p) G H (upd G q o) (upd H q o) ∧ Ps K (upd G q o) (upd H q o) p n := by
  have s : Step none G H (upd G q o) (upd H q o) := (Step.refl a.gh).new_ hq
  exact ⟨s.some_, a.stepN s⟩
theorem Ps.mono {G H : Hp} {p : Addr} {n m : Nat} (a : Ps K G H p n) (h : n ≤ m) : Ps K G H p m := ⟨a.gh, a.out, a.pen.mono h⟩
/-! ### terms -/
inductive So where
  | row | column | place | zero | func | rule
  deriving DecidableEq
def So.s : So → Str
  | .row => "row"
  | .column => "column"
  | .place => "place"
  | .zero => "zero"
  | .func => "function"
  | .rule => "rule"
inductive Mt where
  | mk (so : So) (w : List Nat) (ts : List Mt) (b : Bool)
def tx (so : So) (w : List Nat) (xs : List (List Nat)) (b : Bool) : List Nat := match so with
  | .row => if b = true then w ++ [39] else w
  | .column => xs.headD [] ++ [46] ++ w
  | .place => [64] ++ xs.headD []
  | .zero => [48]
  | .func => w ++ [40] ++ TL.joinL [44, 32] xs ++ [41]
  | .rule => w ++ [91] ++ TL.joinL [44, 32] xs ++ [93]
def Mt.txt : Mt → List Nat
  | .mk so w ts b => tx so w (ts.map Mt.txt) b
theorem Mt.txt_mk (so : So) (w : List Nat) (ts : List Mt) (b : Bool) : (Mt.mk so w ts b).txt = tx so w (ts.map Mt.txt) b := by rw [Mt.txt]
def Mt.dep : Mt → Nat
  | .mk _ _ ts _ => 1 + (ts.map Mt.dep).foldr max 0
theorem Mt.dep_mk (so : So) (w : List Nat) (ts : List Mt) (b : Bool) : (Mt.mk so w ts b).dep = 1 + (ts.map Mt.dep).foldr max 0 := by rw [Mt.dep]
theorem fold_max {l : List Nat} {x : Nat} (h : x ∈ l) : x ≤ l.foldr max 0 := by
  induction l with
  | nil => cases h
  | cons y r ih =>
    rw [List.foldr_cons]
    rcases List.mem_cons.mp h with h | h
    · rw [h]; exact Nat.le_max_left ..
    · exact Nat.le_trans (ih h) (Nat.le_max_right ..)
theorem Mt.dep_part {so : So} {w : List Nat} {ts : List Mt} {b : Bool} {t : Mt} (h : t ∈ ts) : t.dep < (Mt.mk so w ts b).dep := by
  rw [Mt.dep_mk]
  have := fold_max (List.mem_map_of_mem (f := Mt.dep) h)
  omega
/-- the law's own tuples of a term, all below what never changes -/
inductive MAt (G : Hp) : V → Mt → Prop where
  | mk {a p : Addr} {so : So} {w : List Nat} {vs : List V} {ts : List Mt} {b : Bool} (ha : G a = some (.tup [.str so.s, .str (S w), .ref p, .bl b])) (hp : G p = some (.tup vs)) (hl : vs.length = ts.length)
      (h : ∀ (i : Nat) (v : V) (t : Mt), vs[i]? = some v → ts[i]? = some t → MAt G v t) : MAt G (.ref a) (.mk so w ts b)
theorem MAt.same {G G' : Hp} (s : Same G G') : ∀ {v : V} {t : Mt}, MAt G v t → MAt G' v t := fun h => by
  induction h with
  | mk ha hp hl _ ih => exact .mk (s _ _ ha) (s _ _ hp) hl ih
/-- the program's term objects -/
def tf (so : So) (w : List Nat) (l : Addr) (b : Bool) (t : List Nat) (d : Nat) : List (Str × V) :=
  putF "_depth" (.int (d : Nat)) (putF "text" (.str (S t)) (putF "marked" (.bl b) (putF "parts" (.ref l) (putF "name" (.str (S w)) (putF "kind" (.str so.s) [])))))
inductive TAt (C : Addr) (G : Hp) : V → Mt → Prop where
  | mk {a dx l : Addr} {so : So} {w : List Nat} {vs : List V} {ts : List Mt} {b : Bool} (ha : G a = some (.ins C dx (tf so w l b (tx so w (ts.map Mt.txt) b) (1 + (ts.map Mt.dep).foldr max 0)))) (hp : G l = some (.lst vs)) (hl : vs.length = ts.length)
      (h : ∀ (i : Nat) (v : V) (t : Mt), vs[i]? = some v → ts[i]? = some t → TAt C G v t) : TAt C G (.ref a) (.mk so w ts b)
theorem TAt.same {C : Addr} {G G' : Hp} (s : Same G G') : ∀ {v : V} {t : Mt}, TAt C G v t → TAt C G' v t := fun h => by
  induction h with
  | mk ha hp hl _ ih => exact .mk (s _ _ ha) (s _ _ hp) hl ih
section
variable {so : So} {w : List Nat} {l : Addr} {b : Bool} {t : List Nat} {d : Nat}
theorem tf_depth : (tf so w l b t d).lookup ("_depth" : Str) = some (.int (d : Nat)) := by unfold tf; rw [lookup_putF, if_pos rfl]
theorem tf_text : (tf so w l b t d).lookup ("text" : Str) = some (.str (S t)) := by unfold tf; rw [lookup_putF, if_neg (by decide +kernel), lookup_putF, if_pos rfl]
theorem tf_marked : (tf so w l b t d).lookup ("marked" : Str) = some (.bl b) := by unfold tf; rw [lookup_putF, if_neg (by decide +kernel), lookup_putF, if_neg (by decide +kernel), lookup_putF, if_pos rfl]
theorem tf_parts : (tf so w l b t d).lookup ("parts" : Str) = some (.ref l) := by unfold tf; rw [lookup_putF, if_neg (by decide +kernel), lookup_putF, if_neg (by decide +kernel), lookup_putF, if_neg (by decide +kernel), lookup_putF, if_pos rfl]
theorem tf_name : (tf so w l b t d).lookup ("name" : Str) = some (.str (S w)) := by unfold tf; rw [lookup_putF, if_neg (by decide +kernel), lookup_putF, if_neg (by decide +kernel), lookup_putF, if_neg (by decide +kernel), lookup_putF, if_neg (by decide +kernel), lookup_putF, if_pos rfl]
theorem tf_kind : (tf so w l b t d).lookup ("kind" : Str) = some (.str so.s) := by unfold tf; rw [lookup_putF, if_neg (by decide +kernel), lookup_putF, if_neg (by decide +kernel), lookup_putF, if_neg (by decide +kernel), lookup_putF, if_neg (by decide +kernel), lookup_putF, if_neg (by decide +kernel), lookup_putF, if_pos rfl]
end
theorem Same.off {G H : Hp} {q : Addr} {o : HO} (s : Same G H) (h : G q = none) : Same G (upd H q o) := fun b u e => by rw [upd_ne (ne_of_none e h)]; exact s b u e
theorem max_is {l : List Nat} {m : Int} (h0 : l.map (fun (n : Nat) => (n : Int)) = [] → m = 0) (h1 : l.map (fun (n : Nat) => (n : Int)) ≠ [] → m ∈ l.map (fun (n : Nat) => (n : Int)) ∧ ∀ k ∈ l.map (fun (n : Nat) => (n : Int)), k ≤ m) : m = ((l.foldr max 0 : Nat) : Int) := by
  cases l with
  | nil => exact h0 rfl
  | cons x r =>
    obtain ⟨hm, ha⟩ := h1 (fun z => by cases z)
    obtain ⟨n, hn, rfl⟩ := List.mem_map.mp hm
    have up := fold_max hn
    have dn : (x :: r).foldr max 0 ≤ n := by
      have all : ∀ y ∈ x :: r, y ≤ n := fun y hy => by
        have := ha _ (List.mem_map_of_mem (f := fun (n : Nat) => (n : Int)) hy)
        omega
      have gen : ∀ q : List Nat, (∀ y ∈ q, y ≤ n) → q.foldr max 0 ≤ n := fun q => by
        induction q with
        | nil => intro _; exact Nat.zero_le _
        | cons z s ih =>
          intro h
          rw [List.foldr_cons]
          exact Nat.max_le.mpr ⟨h z List.mem_cons_self, ih fun y hy => h y (List.mem_cons_of_mem _ hy)⟩
      exact gen _ all
    exact congrArg (fun (n : Nat) => (n : Int)) (Nat.le_antisymm up dn)
end Bs
namespace Bs
open PySem PySem.Spec PyProof.Rows L2
variable {P : Program} {w : World} {K : PySem.W.Frag} {mg : Str → Option Value} {base : Heap}
theorem cutV_map (ns : List Int) (lo hi : Option Int) : ∃ ms : List Int, cutV (ns.map V.int) lo hi = ms.map V.int ∧ ms.length ≤ ns.length ∧ (∀ h : Nat, lo = none → hi = some (h : Int) → ms.length ≤ h) := by
  refine ⟨(ns.drop (HT.sIx ns.length 0 lo)).take (HT.sIx ns.length ns.length hi - HT.sIx ns.length 0 lo), ?_, ?_, fun h e1 e2 => ?_⟩
  · unfold cutV
    rw [List.length_map, List.map_take, List.map_drop]
  · rw [List.length_take, List.length_drop]; omega
  · subst e1 e2
    rw [HT.sIx_nat, List.length_take]
    omega
theorem dp_ints {H : Hp} : ∀ ns : List Int, DpAll K H (ns.map V.int) (ns.map PyData.int)
  | [] => .nil
  | n :: r => .cons (.int n) (dp_ints r)
theorem lay_ints : ∀ ns : List Int, PyData.canLayAll0 (ns.map PyData.int) = true ∧ PyData.depthAll (ns.map PyData.int) ≤ 1
  | [] => ⟨by simp [PyData.canLayAll0], by simp [PyData.depthAll]⟩
  | n :: r => by
    obtain ⟨h1, h2⟩ := lay_ints r
    refine ⟨by simp [PyData.canLayAll0, PyData.canLay0, h1], ?_⟩
    simp only [List.map_cons, PyData.depthAll, PyData.depth]
    omega
theorem shaped_ints (ns : List Int) : SeqAt.shaped (.list (ns.map PyData.int)) = true := by
  obtain ⟨h1, h2⟩ := lay_ints ns
  unfold SeqAt.shaped
  rw [PyData.canLay0, h1, PyData.depth, Bool.true_and, decide_eq_true_eq]
  omega
theorem eqv_nil (ns : List Int) : (PyData.list (ns.map PyData.int)).eqv (.list []) = ns.isEmpty := by
  cases ns with
  | nil => simp [PyData.eqv, PyData.eqvAll]
  | cons n r => simp [PyData.eqv, PyData.eqvAll]
/-! ### a pen that is a list: the cells, the place of the next one, what is left of a great one -/
abbrev pen3 (c : Addr) (i l : Int) : List V := [.ref c, .int i, .int l]
structure Pq (G H : Hp) (p : Addr) (n : Nat) : Prop where
  gh : Same G H
  out : G p = none
  pen : ∃ (c : Addr) (ns : List Int) (i l : Int), H p = some (.lst (pen3 c i l)) ∧ G c = some (.lst (ns.map V.int)) ∧ ns.length ≤ 63 ∧ 0 ≤ i ∧ i ≤ n ∧ 0 ≤ l
theorem Pq.there {G H : Hp} {p : Addr} {n : Nat} (h : Pq G H p n) : H p ≠ none := by
  obtain ⟨_, _, _, _, e, _⟩ := h.pen
  rw [e]
  exact fun z => by cases z
theorem Pq.mono {G H : Hp} {p : Addr} {n m : Nat} (h : Pq G H p n) (l : n ≤ m) : Pq G H p m := by
  obtain ⟨c, ns, i, q, h1, h2, h3, h4, h5, h6⟩ := h.pen
  exact ⟨h.gh, h.out, c, ns, i, q, h1, h2, h3, h4, by omega, h6⟩
theorem Pq.step {G H G1 H1 : Hp} {p : Addr} {n : Nat} (h : Pq G H p n) (s : Step none G H G1 H1) : Pq G1 H1 p n := by
  obtain ⟨c, ns, i, q, h1, h2, h3, h4, h5, h6⟩ := h.pen
  exact ⟨s.gh, s.out h.out h.there, c, ns, i, q, s.same _ _ h1, s.gg _ _ h2, h3, h4, h5, h6⟩
theorem Pq.went {G H G1 H1 : Hp} {p : Addr} {n : Nat} (h : Pq G H p n) (s : Step none G H G1 H1) : Step (some p) G H G1 H1 ∧ Pq G1 H1 p n := ⟨s.some_, h.step s⟩
theorem Pq.new_ {G H : Hp} {p q : Addr} {n : Nat} {o : HO} (h : Pq G H p n) (hq : H q = none) : Step (some p) G H (upd G q o) (upd H q o) ∧ Pq (upd G q o) (upd H q o) p n := h.went ((Step.refl h.gh).new_ hq)
/-- a new thing of one's own -/
theorem Pq.loc {G H : Hp} {p q : Addr} {n : Nat} {o : HO} (h : Pq G H p n) (hq : H q = none) : Step (some p) G H G (upd H q o) ∧ Pq G (upd H q o) p n := h.went ((Step.refl h.gh).loc hq (h.gh.free hq))
theorem Pq.local_ {G H : Hp} {p l : Addr} {n : Nat} {o : HO} (h : Pq G H p n) (hl : G l = none) (ne : l ≠ p) : Pq G (upd H l o) p n := by
  obtain ⟨c, ns, i, q, h1, h2, h3, h4, h5, h6⟩ := h.pen
  exact ⟨Same.off h.gh hl, h.out, c, ns, i, q, by rw [upd_ne ne.symm]; exact h1, h2, h3, h4, h5, h6⟩
theorem Pq.put {G H : Hp} {p c : Addr} {n : Nat} {ns : List Int} {i l : Int} (gh : Same G H) (out : G p = none) (hp : H p ≠ none) (hc : G c = some (.lst (ns.map V.int))) (hl : ns.length ≤ 63) (h0 : 0 ≤ i) (h1 : i ≤ n) (h2 : 0 ≤ l) :
    Step (some p) G H G (upd H p (.lst (pen3 c i l))) ∧ Pq G (upd H p (.lst (pen3 c i l))) p n := by
  have g : Same G (upd H p (.lst (pen3 c i l))) := Same.off gh out
  refine ⟨⟨Same.refl G, g, fun b hb => .inl hb, fun b o e n => ?_, fun b e h => ?_⟩, g, out, c, ns, i, l, upd_same, hc, hl, h0, h1, h2⟩
  · rw [upd_ne (fun z => n (by rw [z]))]; exact e
  · rw [Option.some.inj e, upd_same]; exact fun z => by cases z
theorem mul_bd {a b A B : Int} (h1 : 0 ≤ a) (h2 : a ≤ A) (h3 : 0 ≤ b) (h4 : b ≤ B) : 0 ≤ a * b ∧ a * b ≤ A * B :=
  ⟨Int.mul_nonneg h1 h3, Int.mul_le_mul h2 h4 h3 (Int.le_trans h1 h2)⟩
def spPenQ (K : PySem.W.Frag) : Sp := fun vs H Q _ => ∃ (a : Addr) (ns : List Int), vs = [.ref a] ∧ SqL K H a (ns.map V.int) ∧ ∀ (p : Addr) (G' H' : Hp), Same H H' → Pq G' H' p 0 → Q (.ref p) H'
def spDrQ : Sp := fun vs H Q _ => ∃ (G : Hp) (p : Addr) (n : Nat) (m : Int), vs = [.ref p, .int m] ∧ Pq G H p n ∧ n ≤ 1000000 ∧ 0 < m ∧ m < 1000000 ∧
  ∀ (d : Int) (G' H' : Hp), Step (some p) G H G' H' → Pq G' H' p (n + 1) → 0 ≤ d → d < m → Q (.int d) H'
end Bs
namespace Pf
open PySem PySem.Spec PyProof.Rows L2 Bs
variable {P : Program} {w : World} {K : PySem.W.Frag} {mg : Str → Option Value} {base : Heap}
abbrev N_Lpen : List Str := ["_law_script"]
theorem sc_Lpen : FnScope N_Lpen ["_law_script"] (defScope s_Lpen) := ⟨rfl, rfl, rfl, by decide +kernel, rfl, by decide +kernel, by decide +kernel⟩
theorem c_Lpen (T : Tx K mg) : C8.Cal P w K mg base 1 "_law_pen" (spPenQ K) [] := by
  obtain ⟨fd, F⟩ := f_Lpen T
  refine mkCal F (g_law_pen T) (F.bindsN fun _ _ _ _ _ _ us hl => match us, hl with | [_], _ => rfl) .nil sc_Lpen (fun vs H Q E h => ?_) (fun cdv A outer s H vs Q E hr h => ?_)
  · obtain ⟨a, ns, rfl, _⟩ := h
    rfl
  obtain ⟨a, ns, rfl, hS, q⟩ := h
  refine ⟨_, (pss_one (ps_ret (pe_lst (pa_cons (pe_callTy call_list_of (by rfl) (z_list T) boot_list (pa_cons (pe_slice sl_list (pv 0) po_none (po_some pe_int)) pa_nil)) (pa_cons pe_int (pa_cons pe_int pa_nil)))))), ?_⟩
  refine ⟨_, rfl, _, rfl, a, _, rfl, hS, fun l hl => ?_⟩
  obtain ⟨ms, e1, _, e3⟩ := cutV_map ns none (some (63 : Nat))
  have k1 : Same H (upd H l (.lst (cutV (ns.map V.int) none (some 63)))) := Same.new (Same.refl H) hl
  have hlv : upd H l (.lst (cutV (ns.map V.int) none (some 63))) l = some (.lst (ms.map V.int)) := by rw [upd_same]; exact congrArg (fun z => some (HO.lst z)) e1
  generalize upd H l (.lst (cutV (ns.map V.int) none (some 63))) = H1 at *
  refine ⟨l, _, rfl, .inl (SqL.of hlv), fun c hc => ⟨by show 3 ≤ sizeLine; decide, fun p hp => ?_⟩⟩
  have npc : p ≠ c := fun z => by rw [z, upd_same] at hp; cases hp
  refine q p (upd (fun _ => none) c (.lst (ms.map V.int))) _ ((k1.trans (Same.new (Same.refl H1) hc)).trans (Same.new (Same.refl _) hp)) ⟨fun b o eb => ?_, by rw [upd_ne npc], c, ms, 0, 0, upd_same, upd_same, e3 63 rfl rfl, by decide, by decide, by decide⟩
  by_cases cb : b = c
  · subst cb
    rw [upd_same] at eb
    rw [upd_ne npc.symm, upd_same, ← eb]
  · rw [upd_ne cb] at eb; cases eb
abbrev N_Ldraw : List Str := ["_law_pen_here", "_law_many", "_law_at", "_law_cell", "_law_low", "_law_high", "_law_digit", "_law_great"]
theorem sc_Ldraw : FnScope N_Ldraw ["_law_pen_here", "_law_many"] (defScope s_Ldraw) := ⟨rfl, rfl, rfl, by decide +kernel, rfl, by decide +kernel, by decide +kernel⟩
theorem c_Ldraw (T : Tx K mg) : C8.Cal P w K mg base 1 "_law_draw" spDrQ [] := by
  obtain ⟨fd, F⟩ := f_Ldraw T
  refine mkCal F (g_law_draw T) (F.bindsN fun _ _ _ _ _ _ us hl => match us, hl with | [_, _], _ => rfl) .nil sc_Ldraw (fun vs H Q E h => ?_) (fun cdv A outer s H vs Q E hr h => ?_)
  · obtain ⟨G, p, n, m, rfl, _⟩ := h
    rfl
  obtain ⟨G, p, n, m, rfl, hP, hn, hm0, hm1, q⟩ := h
  obtain ⟨c, ns, i, l, hp, hc, hl, hi0, hin, hl0⟩ := id hP.pen
  have hu := hu_of hr
  refine ⟨_, (pss_cons (ps_if (pt_cmpR op_gt (pe_ix (ix_listK (K := K) rfl) (pv 0) pe_int (fun _ _ => rfl)) pe_int (nomark _)) (pss_cons (ps_set (i := 6) sc_Ldraw.nd rfl (Or.inl rfl) (pe_op op_modN (pe_callTy call_int1 (by rfl) (z_int T) boot_int (pa_cons (pe_ix (ix_listK (K := K) rfl) (pv 0) pe_int (fun _ _ => rfl)) pa_nil)) (pv 1)))
    (pss_cons (ps_asg (pe_op op_fdivN (pe_callTy call_int1 (by rfl) (z_int T) boot_int (pa_cons (pe_ix (ix_listK (K := K) rfl) (pv 0) pe_int (fun _ _ => rfl)) pa_nil)) (pv 1)) (pg_sub (pv 0) pe_int set_list))
    (pss_one (ps_ret (pv 6))))) pss_nil)
    (pss_cons (ps_set (i := 2) sc_Ldraw.nd rfl (Or.inl rfl) (pe_ix (ix_listK (K := K) rfl) (pv 0) pe_int (fun _ _ => rfl)))
    (pss_cons (ps_asg (pe_op op_add (pv 2) pe_int) (pg_sub (pv 0) pe_int set_list))
    (pss_cons (ps_set (i := 3) sc_Ldraw.nd rfl (Or.inl rfl) (pe_op op_add (pe_op op_add (pe_op op_mul (pe_op op_mul pe_int (pv 2)) (pv 2)) (pe_op op_mul pe_int (pv 2))) pe_int))
    (C8.pss_cut (ps_if (pt_cmpR (op_neD hr.units) (pe_ix (ix_listK (K := K) rfl) (pv 0) pe_int (fun _ _ => rfl)) (pe_lst pa_nil) (nomark _)) (pss_one (ps_set (i := 3) sc_Ldraw.nd rfl (Or.inl rfl) (pe_ix (ix_listK (K := K) rfl) (pe_ix (ix_listK (K := K) rfl) (pv 0) pe_int (fun _ _ => rfl)) (pe_op op_modN (pe_callTy call_int1 (by rfl) (z_int T) boot_int (pa_cons (pv 2) pa_nil)) (pe_callB (call_len_seqK (K := K) rfl) (by rfl) (z_len T) boot_len (pa_cons (pe_ix (ix_listK (K := K) rfl) (pv 0) pe_int (fun _ _ => rfl)) pa_nil))) (fun _ _ => rfl)))) pss_nil)
    (C8.pss_cut (ps_if (PW.pt (pw_and (pt_cmpR op_lt (pv 2) (pe_callB (call_len_seqK (K := K) rfl) (by rfl) (z_len T) boot_len (pa_cons (pe_ix (ix_listK (K := K) rfl) (pv 0) pe_int (fun _ _ => rfl)) pa_nil)) (nomark _)) (pw_and1 (pt_cmpR op_ge (pe_callB call_abs (by rfl) (z_abs T) boot_abs (pa_cons (pv 3) pa_nil)) (pe_op op_pow pe_int pe_int) (nomark _))))) (pss_cons (ps_set (i := 7) sc_Ldraw.nd rfl (Or.inl rfl) (pe_op op_add (pe_op op_mul pe_int (pe_callB call_abs (by rfl) (z_abs T) boot_abs (pa_cons (pv 3) pa_nil))) (pe_callTy call_int1 (by rfl) (z_int T) boot_int (pa_cons (pe_cmpR op_lt (pv 3) pe_int (nomark _)) pa_nil))))
    (pss_cons (ps_asg (pe_op op_fdivN (pe_callTy call_int1 (by rfl) (z_int T) boot_int (pa_cons (pv 7) pa_nil)) (pv 1)) (pg_sub (pv 0) pe_int set_list))
    (pss_one (ps_ret (pe_op op_modN (pe_callTy call_int1 (by rfl) (z_int T) boot_int (pa_cons (pv 7) pa_nil)) (pv 1)))))) pss_nil)
    (pss_cons (ps_set (i := 4) sc_Ldraw.nd rfl (Or.inl rfl) (pe_op op_mod (pe_op op_pow (pe_callTy call_int1 (by rfl) (z_int T) boot_int (pa_cons (pe_op op_add (pe_op op_add (pe_op op_mod (pe_callTy call_int1 (by rfl) (z_int T) boot_int (pa_cons (pv 3) pa_nil)) pe_int) (pe_op op_mul pe_int (pv 2))) pe_int) pa_nil)) pe_int) pe_int))
    (pss_cons (ps_set (i := 5) sc_Ldraw.nd rfl (Or.inl rfl) (pe_op op_mod (pe_op op_pow (pe_callTy call_int1 (by rfl) (z_int T) boot_int (pa_cons (pe_op op_add (pe_op op_add (pe_op op_mul (pv 4) (pe_op op_add (pv 2) pe_int)) (pe_op op_mul (pe_op op_mul pe_int (pv 2)) (pv 2))) pe_int) pa_nil)) pe_int) pe_int))
    (pss_one (ps_ret (pe_op op_modN (pe_callTy call_int1 (by rfl) (z_int T) boot_int (pa_cons (pe_op op_fdiv (pe_op op_mod (pe_callTy call_int1 (by rfl) (z_int T) boot_int (pa_cons (pe_op op_add (pv 5) (pe_op op_mul (pe_op op_mod (pe_callTy call_int1 (by rfl) (z_int T) boot_int (pa_cons (pv 4) pa_nil)) pe_int) pe_int)) pa_nil)) pe_int) pe_int) pa_nil)) (pv 1)))))))))))), ?_⟩
  have fm : ∀ x : Int, 0 ≤ Int.fmod x m ∧ Int.fmod x m < m := fun x => ⟨Int.fmod_nonneg_of_pos x hm0, Int.fmod_lt_of_pos x hm0⟩
  have e0 : ∀ {j k : Int}, atI (pen3 c j k) 0 = some (.ref c) := fun {j k} => atI_nat (j := 0) rfl
  have e1 : ∀ {j k : Int}, atI (pen3 c j k) 1 = some (.int j) := fun {j k} => atI_nat (j := 1) rfl
  have e2 : ∀ {j k : Int}, atI (pen3 c j k) 2 = some (.int k) := fun {j k} => atI_nat (j := 2) rfl
  refine ⟨_, rfl, p, _, 2, _, rfl, rfl, SqL.of hp, e2, _, _, rfl, rfl, _, rfl, ?_⟩
  refine ite2 (fun c1 => ?_) (fun c1 => ?_)
  · refine ⟨_, rfl, p, _, 2, _, rfl, rfl, SqL.of hp, e2, .inl ⟨_, rfl, _, rfl, _, _, rfl, rfl, by omega, ?_⟩⟩
    refine ⟨_, rfl, p, _, 2, _, rfl, rfl, SqL.of hp, e2, .inl ⟨_, rfl, _, rfl, _, _, rfl, rfl, ⟨by omega, by omega⟩, ?_⟩⟩
    refine ⟨_, rfl, p, _, 2, 2, rfl, rfl, hp, rfl, _, rfl, ?_⟩
    obtain ⟨s3, P3⟩ := Pq.put (n := n + 1) (l := Int.fdiv l m) hP.gh hP.out hP.there hc hl hi0 (by omega) (by rw [Int.fdiv_eq_ediv_of_nonneg _ (by omega)]; exact Int.ediv_nonneg hl0 (by omega))
    exact q _ _ _ s3 P3 (fm _).1 (fm _).2
  · refine ⟨_, rfl, p, _, 1, _, rfl, rfl, SqL.of hp, e1, ?_⟩
    refine ⟨_, rfl, _, _, rfl, rfl, _, rfl, p, _, 1, 1, rfl, rfl, hp, rfl, ?_⟩
    obtain ⟨sA, PA⟩ := Pq.put (n := n + 1) (i := i + 1) (l := l) hP.gh hP.out hP.there hc hl (by omega) (by omega) hl0
    have hpA : upd H p (.lst (pen3 c (i + 1) l)) p = some (.lst (pen3 c (i + 1) l)) := upd_same
    generalize eS : (pen3 c i l).set 1 (V.int (i + 1)) = xs1
    obtain rfl : xs1 = pen3 c (i + 1) l := eS.symm.trans rfl
    clear eS
    generalize upd H p (.lst (pen3 c (i + 1) l)) = HA at *
    refine ⟨_, rfl, _, _, rfl, rfl, .inl ⟨by decide, by decide⟩, _, rfl, _, _, rfl, rfl, .inr ⟨by omega, by omega⟩, _, rfl, _, _, rfl, rfl, .inl ⟨by decide, by decide⟩, _, _, rfl, rfl, _, _, rfl, rfl, ?_⟩
    refine ⟨fun σ' H' => ∃ c0 : Int, σ' = [some (.ref p), some (.int m), some (.int i), some (.int c0), none, none, none, none] ∧ Step (some p) G H G H' ∧ Pq G H' p (n + 1) ∧ H' p = some (.lst (pen3 c (i + 1) l)), ?_, ?_⟩
    · refine ⟨_, rfl, p, _, 0, _, rfl, rfl, SqL.of hpA, e0, Nat.zero_le _, fun l0 hl0 => ?_⟩
      obtain ⟨s0, P0⟩ := PA.loc (o := .lst []) hl0
      have hp0 : upd HA l0 (.lst []) p = some (.lst (pen3 c (i + 1) l)) := by rw [upd_ne (ne_of_none hpA hl0)]; exact hpA
      have hn0 : upd HA l0 (.lst []) l0 = some (.lst []) := upd_same
      generalize upd HA l0 (.lst []) = H0 at *
      refine ⟨_, _, .lst (SqL.of (P0.gh _ _ hc)) (dp_ints ns), .lst (SqL.of hn0) .nil, shaped_ints ns, shaped_ints [], _, rfl, ?_⟩
      rw [eqv_nil]
      refine ite2 (fun c2 => ?_) (fun c2 => ⟨_, rfl, sA.trans s0, P0, hp0⟩)
      have hne : 0 < ns.length := by
        cases ns with
        | nil => simp at c2
        | cons n t => simp
      have hlen : (ns.map V.int).length = ns.length := List.length_map _
      have c2' : (0 : Int) < ((ns.map V.int).length : Nat) := by omega
      have hi1 := Int.fmod_nonneg_of_pos i c2'
      have hi2 := Int.fmod_lt_of_pos i c2'
      obtain ⟨v, hv, _⟩ := atI_int (ns := ns) hi1 (by omega)
      refine ⟨_, rfl, p, _, 0, _, rfl, rfl, SqL.of hp0, e0, _, rfl, .inl ⟨_, rfl, _, rfl, p, _, 0, _, rfl, rfl, SqL.of hp0, e0, c, _, rfl, .inl (SqL.of (P0.gh _ _ hc)), _, _, rfl, rfl, by omega, c, _, _, _, rfl, rfl, SqL.of (P0.gh _ _ hc), hv, ?_⟩⟩
      exact ⟨v, rfl, sA.trans s0, P0, hp0⟩
    rintro σ' H' ⟨c0, rfl, s1, P1, hp1⟩
    have hc1 := P1.gh _ _ hc
    refine ⟨fun σ' H'' => σ' = [some (.ref p), some (.int m), some (.int i), some (.int c0), none, none, none, none] ∧ H'' = H', ?_, ?_⟩
    · refine ⟨_, rfl, _, rfl, p, _, 0, _, rfl, rfl, SqL.of hp1, e0, c, _, rfl, .inl (SqL.of hc1), _, _, rfl, rfl, _, rfl, ?_⟩
      refine ite2 (fun _ => ?_) (fun _ => iteF ⟨rfl, rfl⟩)
      refine ⟨_, rfl, _, rfl, _, _, rfl, rfl, ⟨by decide, by decide, by decide⟩, _, _, rfl, rfl, _, rfl, ?_⟩
      refine ite2 (fun _ => ?_) (fun _ => ⟨rfl, rfl⟩)
      have hab : (0 : Int) ≤ (if c0 < 0 then -c0 else c0) := by split <;> omega
      refine ⟨_, rfl, _, rfl, _, _, rfl, rfl, .inl ⟨by decide, by decide⟩, _, rfl, _, _, rfl, rfl, .inr ⟨_, rfl, _, _, rfl, rfl, ?_⟩⟩
      have hg : (0 : Int) ≤ 2 * (if c0 < 0 then -c0 else c0) + (if decide (c0 < 0) = true then 1 else 0) := by split <;> omega
      dsimp only
      generalize (2 * (if c0 < 0 then -c0 else c0) + (if decide (c0 < 0) = true then 1 else 0) : Int) = g at hg
      refine ⟨_, rfl, .inl ⟨_, rfl, _, rfl, _, _, rfl, rfl, ⟨by omega, by omega⟩, _, rfl, p, _, 2, 2, rfl, rfl, hp1, rfl, ?_⟩⟩
      refine ⟨_, rfl, .inl ⟨_, rfl, _, rfl, _, _, rfl, rfl, by omega, ?_⟩⟩
      obtain ⟨s3, P3⟩ := Pq.put (n := n + 1) (i := i + 1) (l := Int.fdiv g m) P1.gh P1.out P1.there hc hl (by omega) (by omega) (by rw [Int.fdiv_eq_ediv_of_nonneg _ (by omega)]; exact Int.ediv_nonneg hg (by omega))
      exact q _ _ _ (s1.trans s3) P3 (fm _).1 (fm _).2
    · rintro σ' H'' ⟨rfl, rfl⟩
      have r1 := Int.emod_nonneg c0 (show (2147483423 : Int) ≠ 0 by decide)
      have r2 := Int.emod_lt_of_pos c0 (show (0 : Int) < 2147483423 by decide)
      refine ⟨_, rfl, .inl ⟨_, rfl, _, _, rfl, rfl, (by show (0 : Int) < 2147483423; decide), _, rfl, _, _, rfl, rfl, .inl ⟨by decide, by decide⟩, _, _, rfl, rfl, _, _, rfl, rfl, .inl ⟨_, rfl, _, _, rfl, rfl, ⟨by decide, by decide, by omega⟩, _, _, rfl, rfl, (by show (0 : Int) < 2147483629; decide), ?_⟩⟩⟩
      dsimp only
      generalize el : (c0 % 2147483423 + 60103 * i + 239) ^ (5 : Int).toNat % 2147483629 = lw
      have l1 : 0 ≤ lw := by rw [← el]; exact Int.emod_nonneg _ (by decide)
      have l2 : lw < 2147483629 := by rw [← el]; exact Int.emod_lt_of_pos _ (by decide)
      clear el
      obtain ⟨m1, m2⟩ := mul_bd l1 (show lw ≤ 2147483629 by omega) (show 0 ≤ i + 11 by omega) (show i + 11 ≤ 1000011 by omega)
      obtain ⟨m3, m4⟩ := mul_bd (show (0 : Int) ≤ 90023 * i by omega) (show 90023 * i ≤ 90023000000 by omega) hi0 (show i ≤ 1000000 by omega)
      refine ⟨_, rfl, _, rfl, _, _, rfl, rfl, _, _, rfl, rfl, .inr ⟨by omega, by omega⟩, _, rfl, _, _, rfl, rfl, .inl ⟨by decide, by decide⟩, _, rfl, _, _, rfl, rfl, .inr ⟨by omega, by omega⟩, _, _, rfl, rfl, _, _, rfl, rfl, .inl ⟨_, rfl, _, _, rfl, rfl, ⟨by decide, by decide, by omega⟩, _, _, rfl, rfl, (by show (0 : Int) < 2147483563; decide), ?_⟩⟩
      dsimp only
      generalize eh : (lw * (i + 11) + 90023 * i * i + 3) ^ (3 : Int).toNat % 2147483563 = hg
      have h1 : 0 ≤ hg := by rw [← eh]; exact Int.emod_nonneg _ (by decide)
      clear eh
      refine ⟨_, rfl, _, rfl, .inl ⟨_, rfl, _, _, rfl, rfl, (by show (0 : Int) < 43003; decide), _, _, rfl, rfl, .inr ⟨by decide, by decide⟩, _, _, rfl, rfl, .inl ⟨_, rfl, _, _, rfl, rfl, (by show (0 : Int) < 2147483477; decide), _, _, rfl, rfl, ⟨by decide, by decide⟩, .inl ⟨_, rfl, _, rfl, _, _, rfl, rfl, by omega, ?_⟩⟩⟩⟩
      exact q _ _ _ s1 P1 (fm _).1 (fm _).2
end Pf
namespace Bs
open PySem PySem.Spec PyProof.Rows L2
variable {P : Program} {w : World} {K : PySem.W.Frag} {mg : Str → Option Value} {base : Heap}
def spNumber : Sp := fun vs H Q _ => ∃ (G : Hp) (p : Addr) (n : Nat), vs = [.ref p] ∧ Pq G H p n ∧ n ≤ 900000 ∧ ∀ (x : Int) (G' H' : Hp), Step (some p) G H G' H' → Pq G' H' p (n + 2) → Q (.int x) H'
/-- a tuple of three small numbers -/
def Mv (G : Hp) (q : Addr × List Int) : Prop := G q.1 = some (.tup (q.2.map V.int)) ∧ q.2.length = 3 ∧ ∀ x ∈ q.2, 0 ≤ x ∧ x < 64
theorem Mv.same {G G' : Hp} {q : Addr × List Int} (h : Mv G q) (s : Same G G') : Mv G' q := ⟨s _ _ h.1, h.2⟩
def spMoves : Sp := fun vs H Q _ => ∃ (G : Hp) (p : Addr) (n : Nat), vs = [.ref p] ∧ Pq G H p n ∧ n ≤ 900000 ∧ ∀ (l : Addr) (ms : List (Addr × List Int)) (G' H' : Hp), Step (some p) G H G' H' → Pq G' H' p (n + 26) → G' l = some (.lst (ms.map fun q => V.ref q.1)) → ms ≠ [] → ms.length < 64 → (∀ q ∈ ms, Mv G' q) → Q (.ref l) H'
end Bs
namespace Pf
open PySem PySem.Spec PyProof.Rows L2 Bs
variable {P : Program} {w : World} {K : PySem.W.Frag} {mg : Str → Option Value} {base : Heap}
abbrev N_Lnumber : List Str := ["_law_pen_here", "_law_way", "_law_small"]
theorem sc_Lnumber : FnScope N_Lnumber ["_law_pen_here"] (defScope s_Lnumber) := ⟨rfl, rfl, rfl, by decide +kernel, rfl, by decide +kernel, by decide +kernel⟩
theorem c_Lnumber (T : Tx K mg) : C8.Cal P w K mg base 2 "_law_number" spNumber [] := by
  obtain ⟨fd, F⟩ := f_Lnumber T
  have c_Ldraw := c_Ldraw (P := P) (w := w) (base := base) T
  show C8.Cal P w K mg base (1 + 1) _ _ _
  refine mkCal F (g_law_number T) (F.bindsN fun _ _ _ _ _ _ us hl => match us, hl with | [_], _ => rfl) .nil sc_Lnumber (fun vs H Q E h => ?_) (fun cdv A outer s H vs Q E hr h => ?_)
  · obtain ⟨G, p, n, rfl, _⟩ := h
    rfl
  obtain ⟨G, p, n, rfl, hP, hn, q⟩ := h
  refine ⟨_, (pss_cons (ps_set (i := 1) sc_Lnumber.nd rfl (Or.inl rfl) (C8.pe_c c_Ldraw hr (by first | decide | omega) rfl (pa_cons (pv 0) (pa_cons pe_int pa_nil))))
    (pss_cons (ps_set (i := 2) sc_Lnumber.nd rfl (Or.inl rfl) (C8.pe_c c_Ldraw hr (by first | decide | omega) rfl (pa_cons (pv 0) (pa_cons pe_int pa_nil))))
    (pss_one (ps_ret (pe_ix (ix_listK (K := K) rfl) (pe_lst (pa_cons pe_int (pa_cons pe_int (pa_cons (pv 2) (pa_cons (pe_op op_sub (pe_op op_sub pe_int pe_int) (pv 2)) (pa_cons (pe_op op_add (pe_op op_pow pe_int pe_int) (pe_op op_mul pe_int (pv 2))) (pa_cons (pe_op op_sub (pe_op op_sub pe_int (pe_op op_pow pe_int pe_int)) (pv 2)) pa_nil))))))) (pv 1) (fun _ _ => rfl)))))), ?_⟩
  refine ⟨_, rfl, G, p, n, 6, rfl, hP, by omega, by decide, by decide, fun d1 G1 H1 s1 P1 a1 b1 => ?_⟩
  refine ⟨_, rfl, G1, p, n + 1, 100, rfl, P1, by omega, by decide, by decide, fun d2 G2 H2 s2 P2 a2 b2 => ?_⟩
  refine ⟨_, rfl, _, _, rfl, rfl, _, rfl, _, _, rfl, rfl, _, _, rfl, rfl, ⟨by decide, by decide, by decide⟩, _, rfl, _, _, rfl, rfl, .inl ⟨by decide, by decide⟩, _, _, rfl, rfl, _, _, rfl, rfl, ⟨by decide, by decide, by decide⟩, _, _, rfl, rfl, _, rfl, _, _, rfl, rfl, by show 6 ≤ sizeLine; decide, fun l hl => ?_⟩
  dsimp only
  obtain ⟨v, hv, _⟩ := atI_int (ns := [0, 1, d2, 0 - 1 - d2, 10 ^ (19 : Int).toNat + 7 * d2, 0 - 10 ^ (20 : Int).toNat - d2]) a1 (by simpa using b1)
  obtain ⟨s3, P3⟩ := P2.loc (o := .lst ([0, 1, d2, 0 - 1 - d2, 10 ^ (19 : Int).toNat + 7 * d2, 0 - 10 ^ (20 : Int).toNat - d2].map V.int)) hl
  refine ⟨_, rfl, l, _, d1, .int v, rfl, rfl, SqL.of upd_same, hv, ?_⟩
  exact q v _ _ ((s1.trans s2).trans s3) P3
abbrev N_Lmoves : List Str := ["_law_pen_here", "_law_found", "_law_turn"]
theorem sc_Lmoves : FnScope N_Lmoves ["_law_pen_here"] (defScope s_Lmoves) := ⟨rfl, rfl, rfl, by decide +kernel, rfl, by decide +kernel, by decide +kernel⟩
theorem c_Lmoves (T : Tx K mg) : C8.Cal P w K mg base 2 "_law_moves" spMoves [] := by
  obtain ⟨fd, F⟩ := f_Lmoves T
  have c_Ldraw := c_Ldraw (P := P) (w := w) (base := base) T
  show C8.Cal P w K mg base (1 + 1) _ _ _
  refine mkCal F (g_law_moves T) (F.bindsN fun _ _ _ _ _ _ us hl => match us, hl with | [_], _ => rfl) .nil sc_Lmoves (fun vs H Q E h => ?_) (fun cdv A outer s H vs Q E hr h => ?_)
  · obtain ⟨G, p, n, rfl, _⟩ := h
    rfl
  obtain ⟨G, p, n, rfl, hP, hn, q⟩ := h
  have sl : sizeLine = 16777216 := rfl
  refine ⟨_, (pss_cons (ps_setLc (i := 1) (own := [("_law_turn", 2)]) rfl sc_Lmoves.nd rfl rfl (sw_true rfl rfl rfl (by decide +kernel)) (pi_range1 (by rfl) (z_range T) (pa_cons (pe_op op_add pe_int (C8.pe_c c_Ldraw hr (by first | decide | omega) rfl (pa_cons (pv 0) (pa_cons pe_int pa_nil)))) pa_nil)) (blkOk_by (N := N_Lmoves) (sc := defScope s_Lmoves) (by decide +kernel)) (fun _ _ _ _ _ => (pg_name (i := 2) sc_Lmoves.nd rfl (Or.inl rfl))) (fun _ _ _ _ _ => pts_nil) (fun _ _ _ _ _ => (pe_tup (pa_cons (pe_op op_add pe_int (C8.pe_c c_Ldraw hr (by first | decide | omega) rfl (pa_cons (pv 0) (pa_cons pe_int pa_nil)))) (pa_cons (C8.pe_c c_Ldraw hr (by first | decide | omega) rfl (pa_cons (pv 0) (pa_cons pe_int pa_nil))) (pa_cons (C8.pe_c c_Ldraw hr (by first | decide | omega) rfl (pa_cons (pv 0) (pa_cons pe_int pa_nil))) pa_nil))))))
    (pss_one (ps_ret (pe_callB (cr_sortedT rfl) (by rfl) (z_sorted T) boot_sorted (pa_cons (pe_callTy (cr_setOfT rfl hr.units) (by rfl) (z_set T) boot_set (pa_cons (pv 1) pa_nil)) pa_nil))))), ?_⟩
  refine ⟨_, rfl, G, p, n, 8, rfl, hP, by omega, by decide, by decide, fun d1 G1 H1 s1 P1 a1 b1 => ?_⟩
  refine ⟨_, _, rfl, rfl, _, rfl, by omega, by omega, fun D hD => ?_⟩
  have nDp : D ≠ p := fun z => P1.there (by rw [← z]; exact hD)
  have gD : G1 D = none := P1.gh.free hD
  obtain ⟨sD, PD⟩ := P1.loc (o := .lst []) hD
  refine lc_range (lo := 0) (n := (1 + d1).toNat) (fun i H' => ∃ (G' : Hp) (ks : List (Addr × List Int)), Step (some p) G1 H1 G' H' ∧ Pq G' H' p (n + 1 + 3 * i) ∧ G' D = none ∧ H' D = some (.lst (ks.map fun q => V.ref q.1)) ∧ ks.length = i ∧ ∀ q ∈ ks, Mv G' q)
    ⟨G1, [], sD, PD, gD, upd_same, rfl, fun q h => by cases h⟩ ?_ ?_
  · rintro i H' hi ⟨G', ks, st, ps, g', hL, rfl, hks⟩
    have hi8 : ks.length < 8 := by omega
    refine ⟨rfl, ?_⟩
    unfold tYes
    refine iteT ?_
    refine ⟨_, rfl, G', p, _, 24, rfl, ps, by omega, by decide, by decide, fun x1 Ga Ha sa Pa xa1 xb1 => ⟨_, _, rfl, rfl, ?_⟩⟩
    refine ⟨_, rfl, Ga, p, _, 16, rfl, Pa, by omega, by decide, by decide, fun x2 Gb Hb sb Pb xa2 xb2 => ?_⟩
    refine ⟨_, rfl, Gb, p, _, 16, rfl, Pb, by omega, by decide, by decide, fun x3 Gc Hc sc Pc xa3 xb3 => ⟨by show 3 ≤ sizeLine; decide, fun t ht => ?_⟩⟩
    have sabc := (sa.trans sb).trans sc
    have hLc := sabc.kpc _ _ hL nDp
    have gc := sabc.out g' (by rw [hL]; exact fun z => by cases z)
    have nDt : D ≠ t := ne_of_none hLc ht
    obtain ⟨sn, Pn⟩ := Pc.new_ (o := .tup [.int (1 + x1), .int x2, .int x3]) ht
    have gn : upd Gc t (.tup [.int (1 + x1), .int x2, .int x3]) D = none := by rw [upd_ne nDt]; exact gc
    refine ⟨_, by rw [upd_ne nDt]; exact hLc, by rw [List.length_map]; omega, upd Gc t (.tup [.int (1 + x1), .int x2, .int x3]), ks ++ [(t, [1 + x1, x2, x3])], ((st.trans sabc).trans sn).loc hD gn, (Pn.mono (by omega)).local_ gn nDp, gn, ?_, by rw [List.length_append]; rfl, fun z hz => ?_⟩
    · rw [upd_same, List.map_append]; rfl
    · rcases List.mem_append.mp hz with h | h
      · exact (hks z h).same (sabc.gg.trans sn.gg)
      · rw [List.mem_singleton.mp h]
        refine ⟨upd_same, rfl, fun y hy => ?_⟩
        simp only [List.mem_cons, List.mem_nil_iff, or_false] at hy
        omega
  rintro H' ⟨G', ks, st, ps, g', hL, hlen, hks⟩
  have hk8 : ks.length ≤ 8 := by omega
  have hk0 : ks ≠ [] := fun z => by
    rw [z] at hlen
    simp at hlen
    omega
  refine ⟨_, rfl, D, ks, rfl, SqL.of hL, fun z hz => SqT.of (ps.gh _ _ (hks z hz).1), by omega, fun a L ha h1 h2 => ?_⟩
  obtain ⟨sS, PS⟩ := ps.loc (o := SetTO P w a L) ha
  have hset : upd H' a (SetTO P w a L) a = some (SetTO P w a L) := upd_same
  have hmv : ∀ z ∈ L, Mv G' z := fun z hz => hks z (h1 z hz)
  have hL0 : L ≠ [] := fun z => by
    subst z
    cases ks with
    | nil => exact hk0 rfl
    | cons x r => have := h2 x List.mem_cons_self; simp at this
  refine ⟨a, L, 3, 64, rfl, hset, fun z hz => SqT.of (PS.gh _ _ (hmv z hz).1), by decide, fun z hz => ⟨(hmv z hz).2.1, (hmv z hz).2.2⟩, fun L' l pm _ l64 _ hl => ?_⟩
  obtain ⟨sn, Pn⟩ := PS.new_ (q := l) (o := .lst (L'.map fun q => V.ref q.1)) (show upd H' a (SetTO P w a L) l = none from hl)
  refine q l L' _ _ ((((s1.trans st).trans sS).trans sn)) (Pn.mono (show n + 1 + 3 * (1 + d1).toNat ≤ n + 26 by omega)) upd_same (fun z => hL0 (by
    subst z
    exact List.eq_nil_of_length_eq_zero (by rw [← pm.length_eq]; rfl))) l64 fun z hz => (hmv z (pm.mem_iff.mp hz)).same sn.gg
end Pf
namespace Bs
open PySem PySem.Spec PyProof.Rows L2
variable {P : Program} {w : World} {K : PySem.W.Frag} {mg : Str → Option Value} {base : Heap}
theorem ok0 {nm qual : Str} {par : Arguments} {bd : List Stmt} {sco : Scope} {N ps : List Str} {k : Nat} {sp : Sp} {kws : List (Str × V)} {dvs' : List V} {a : Addr} {fd : FuncData}
    (F : FunD K nm qual par bd sco dvs' kws a fd) (S : FnScope N ps sco) (len : ∀ vs H Q E, sp vs H Q E → vs.length = ps.length)
    (body : ∀ (cdv : Value) (A : Around) (outer : List Env) (s : Shared) (H : Hp) (vs : List V) (Q : VK) (E : XK), Room k (A.deeper (envOfC qual sco s.heap.objs.size a cdv)) → sp vs H Q E →
      ∃ t, PSs (cxOf C8.CX0 P w K mg base N qual sco a cdv A outer s H E).nox bd t ∧ t { nx := fun _ H' => Q .non H', rt := Q } (start N vs) H) : FnOk P w K mg base C8.CX0 (k + 1) a fd ps sp :=
  F.ok S len fun cdv A outer s H vs Q E hr h => let ⟨t, h1, h2⟩ := body cdv A outer s H vs Q E hr h
    ⟨t, h1.nox, h2⟩
def df (ln : Addr) (k : Int) : List (Str × V) := [("_numbers", .ref ln), ("_calls", .int k)]
theorem df_ne : ¬ (("_numbers" : Str) = "_calls") ∧ ¬ (("_calls" : Str) = "_numbers") := by decide +kernel
theorem df_n {ln : Addr} {k : Int} : (df ln k).lookup ("_numbers" : Str) = some (.ref ln) := by simp [df, List.lookup]
theorem df_c {ln : Addr} {k : Int} : (df ln k).lookup ("_calls" : Str) = some (.int k) := by
  have h : (("_calls" : Str) == "_numbers") = false := beq_eq_false_iff_ne.mpr df_ne.2
  simp [df, List.lookup, h]
theorem df_put {ln : Addr} {k j : Int} : putF "_calls" (.int j) (df ln k) = df ln j := by simp [df, putF, df_ne.1]
theorem df_new {ln : Addr} {k : Int} : putF "_calls" (.int k) (putF "_numbers" (.ref ln) []) = df ln k := by simp [df, putF, df_ne.1]
def spAt (j : Int) : Sp := fun vs H Q _ => ∃ (s lm : Addr) (xs : List V) (v : V), vs = [.ref s, .ref lm] ∧ H lm = some (.lst xs) ∧ atI xs j = some v ∧ Q v H
def spDrawnC (C : Addr) : Sp := fun vs H Q _ => ∃ (a lm dx ln : Addr) (k j : Int) (ns : List Int) (xs : List V) (v : V), vs = [.ref a, .ref lm] ∧ H a = some (.ins C dx (df ln k)) ∧ H ln = some (.lst (ns.map V.int)) ∧ H lm = some (.lst xs) ∧ 0 < ns.length ∧ 0 < xs.length ∧
  atI (ns.map V.int) (k.fmod ns.length) = some (.int j) ∧ atI xs (j.fmod xs.length) = some v ∧ Q v (upd H a (.ins C dx (df ln (k + 1))))
def spDrawnI (C : Addr) : Sp := fun vs H Q _ => ∃ (p l dx : Addr) (ns : List Int), vs = [.ref p, .ref l] ∧ H l = some (.lst (ns.map V.int)) ∧ H p = some (.ins C dx []) ∧
  ∀ ln : Addr, H ln = none → Q .non (upd (upd H ln (.lst (ns.map V.int))) p (.ins C dx (df ln 0)))
end Bs
namespace Pf
open PySem PySem.Spec PyProof.Rows L2 Bs
variable {P : Program} {w : World} {K : PySem.W.Frag} {mg : Str → Option Value} {base : Heap}
abbrev CD (K : PySem.W.Frag) : Addr := He.ga K "Drawn"
theorem n0_First (T : Tx K mg) : Gd.New0 K (He.ga K "First") := by
  obtain ⟨h1, h⟩ := Bool.and_eq_true_iff.mp (ex_0 T)
  obtain ⟨h2, h3⟩ := Bool.and_eq_true_iff.mp h
  exact ⟨h1, h2, He.eqO_ok h3⟩
theorem n0_Last (T : Tx K mg) : Gd.New0 K (He.ga K "Last") := by
  obtain ⟨h1, h⟩ := Bool.and_eq_true_iff.mp (ex_1 T)
  obtain ⟨h2, h3⟩ := Bool.and_eq_true_iff.mp h
  exact ⟨h1, h2, He.eqO_ok h3⟩
theorem co_First (T : Tx K mg) : StX.CallO K (He.ga K "First") (He.ma K (He.ga K "First") "__call__") := ⟨(meth_First_call T).at_, (meth_First_call T).fn, ex_2 T⟩
theorem co_Last (T : Tx K mg) : StX.CallO K (He.ga K "Last") (He.ma K (He.ga K "Last") "__call__") := ⟨(meth_Last_call T).at_, (meth_Last_call T).fn, ex_3 T⟩
theorem co_Drawn (T : Tx K mg) : StX.CallO K (CD K) (He.ma K (CD K) "__call__") := ⟨(meth_Drawn_call T).at_, (meth_Drawn_call T).fn, ex_4 T⟩
abbrev N_First_call : List Str := ["self", "moves"]
theorem sc_First_call : FnScope N_First_call ["self", "moves"] (defScope s_First_call) := ⟨rfl, rfl, rfl, by decide +kernel, rfl, by decide +kernel, by decide +kernel⟩
theorem FR_First (T : Tx K mg) : FnR P w K mg base C8.CX0 1 (He.ma K (He.ga K "First") "__call__") (spAt 0) := by
  obtain ⟨fd, F⟩ := f_First_call T
  have RB : Binds K fd ["self", "moves"] [] := F.bindsN fun _ _ _ _ _ _ us hl => match us, hl with | [_, _], _ => rfl
  have RO : FnOk P w K mg base C8.CX0 1 (He.ma K (He.ga K "First") "__call__") fd ["self", "moves"] (spAt 0) := by
    refine ok0 F sc_First_call (fun vs H Q E h => ?_) (fun cdv A outer s H vs Q E hr h => ?_)
    · obtain ⟨s, lm, xs, v, rfl, _⟩ := h
      rfl
    obtain ⟨s', lm, xs, v, rfl, hl, hv, q⟩ := h
    exact ⟨_, (pss_one (ps_ret (pe_ix (ix_listK (K := K) rfl) (pv 1) pe_int (fun _ _ => rfl)))), _, rfl, lm, xs, 0, v, rfl, rfl, SqL.of hl, hv, q⟩
  exact (RO.raw RB .nil).imp fun vs H Q E h => by rw [List.append_nil]; exact h
abbrev N_Last_call : List Str := ["self", "moves"]
theorem sc_Last_call : FnScope N_Last_call ["self", "moves"] (defScope s_Last_call) := ⟨rfl, rfl, rfl, by decide +kernel, rfl, by decide +kernel, by decide +kernel⟩
theorem FR_Last (T : Tx K mg) : FnR P w K mg base C8.CX0 1 (He.ma K (He.ga K "Last") "__call__") (spAt (-1)) := by
  obtain ⟨fd, F⟩ := f_Last_call T
  have RB : Binds K fd ["self", "moves"] [] := F.bindsN fun _ _ _ _ _ _ us hl => match us, hl with | [_, _], _ => rfl
  have RO : FnOk P w K mg base C8.CX0 1 (He.ma K (He.ga K "Last") "__call__") fd ["self", "moves"] (spAt (-1)) := by
    refine ok0 F sc_Last_call (fun vs H Q E h => ?_) (fun cdv A outer s H vs Q E hr h => ?_)
    · obtain ⟨s, lm, xs, v, rfl, _⟩ := h
      rfl
    obtain ⟨s', lm, xs, v, rfl, hl, hv, q⟩ := h
    exact ⟨_, (pss_one (ps_ret (pe_ix (ix_listK (K := K) rfl) (pv 1) (pe_un un_neg pe_int) (fun _ _ => rfl)))), _, rfl, _, rfl, lm, xs, -1, v, rfl, rfl, SqL.of hl, hv, q⟩
  exact (RO.raw RB .nil).imp fun vs H Q E h => by rw [List.append_nil]; exact h
abbrev N_Drawn_call : List Str := ["self", "moves", "number"]
theorem sc_Drawn_call : FnScope N_Drawn_call ["self", "moves"] (defScope s_Drawn_call) := ⟨rfl, rfl, rfl, by decide +kernel, rfl, by decide +kernel, by decide +kernel⟩
theorem FR_Drawn (T : Tx K mg) : FnR P w K mg base C8.CX0 1 (He.ma K (CD K) "__call__") (spDrawnC (CD K)) := by
  obtain ⟨fd, F⟩ := f_Drawn_call T
  have RB : Binds K fd ["self", "moves"] [] := F.bindsN fun _ _ _ _ _ _ us hl => match us, hl with | [_, _], _ => rfl
  have RO : FnOk P w K mg base C8.CX0 1 (He.ma K (CD K) "__call__") fd ["self", "moves"] (spDrawnC (CD K)) := by
    refine ok0 F sc_Drawn_call (fun vs H Q E h => ?_) (fun cdv A outer s H vs Q E hr h => ?_)
    · obtain ⟨a, lm, dx, ln, k, j, ns, xs, v, rfl, _⟩ := h
      rfl
    obtain ⟨a, lm, dx, ln, k, j, ns, xs, v, rfl, ha, hn, hm, n0, x0, hj, hv, q⟩ := h
    have C0 := cls_Drawn_ T
    have lz : (ns.map V.int).length = ns.length := List.length_map _
    refine ⟨_, (pss_cons (ps_set (i := 2) sc_Drawn_call.nd rfl (Or.inl rfl) (pe_ix (ix_listK (K := K) rfl) (pe_fldK (K := K) rfl (pv 0) (by rfl)) (pe_op op_modN (pe_fldK (K := K) rfl (pv 0) (by rfl)) (pe_callB (call_len_seqK (K := K) rfl) (by rfl) (z_len T) boot_len (pa_cons (pe_fldK (K := K) rfl (pv 0) (by rfl)) pa_nil))) (fun _ _ => rfl)))
    (pss_cons (ps_fldaug (pv 0) pe_int in_add)
    (pss_one (ps_ret (pe_ix (ix_listK (K := K) rfl) (pv 1) (pe_op op_modN (pv 2) (pe_callB (call_len_seqK (K := K) rfl) (by rfl) (z_len T) boot_len (pa_cons (pv 1) pa_nil))) (fun _ _ => rfl)))))), ?_⟩
    refine ⟨_, rfl, a, CD K, dx, _, _, rfl, ha, C0, noat_Drawn_numbers T, df_n, ?_⟩
    refine ⟨_, rfl, a, CD K, dx, _, _, rfl, ha, C0, noat_Drawn_calls T, df_c, ?_⟩
    refine ⟨_, rfl, a, CD K, dx, _, _, rfl, ha, C0, noat_Drawn_numbers T, df_n, ln, _, rfl, .inl (SqL.of hn), _, _, rfl, rfl, by omega, ln, _, _, .int j, rfl, rfl, SqL.of hn, by rw [lz]; exact hj, ?_⟩
    refine ⟨_, rfl, a, CD K, dx, _, _, rfl, ha, C0, noat_Drawn_calls T, df_c, k, 1, rfl, rfl, dx, _, ha, by show 2 < 1000; decide, ?_⟩
    rw [df_put]
    have nm : lm ≠ a := ne_of hm ha (by intro z; cases z)
    refine ⟨_, rfl, _, rfl, _, rfl, lm, _, rfl, .inl (SqL.of (by rw [upd_ne nm]; exact hm)), _, _, rfl, rfl, by omega, lm, _, _, v, rfl, rfl, SqL.of (by rw [upd_ne nm]; exact hm), hv, q⟩
  exact (RO.raw RB .nil).imp fun vs H Q E h => by rw [List.append_nil]; exact h
abbrev N_Drawn_init : List Str := ["self", "numbers"]
theorem sc_Drawn_init : FnScope N_Drawn_init ["self", "numbers"] (defScope s_Drawn_init) := ⟨rfl, rfl, rfl, by decide +kernel, rfl, by decide +kernel, by decide +kernel⟩
theorem m_Drawn (T : Tx K mg) : C8.Mak P w K mg base 1 "Drawn" (CD K) (spDrawnI (CD K)) [] := by
  obtain ⟨fd, F⟩ := f_Drawn_init T
  have RB : Binds K fd ["self", "numbers"] [] := F.bindsN fun _ _ _ _ _ _ us hl => match us, hl with | [_, _], _ => rfl
  have RO : FnOk P w K mg base C8.CX0 1 (He.ma K (CD K) "__init__") fd ["self", "numbers"] (spDrawnI (CD K)) := by
    refine ok0 F sc_Drawn_init (fun vs H Q E h => ?_) (fun cdv A outer s H vs Q E hr h => ?_)
    · obtain ⟨p, l, dx, ns, rfl, _⟩ := h
      rfl
    obtain ⟨p, l, dx, ns, rfl, hl, hp, q⟩ := h
    have C0 := cls_Drawn_ T
    refine ⟨_, (pss_cons (ps_fld (pv 0) (pe_callTy call_list_of (by rfl) (z_list T) boot_list (pa_cons (pv 1) pa_nil)) rfl)
    (pss_one (ps_fld (pv 0) pe_int rfl))), ?_⟩
    refine ⟨_, rfl, l, _, rfl, .inl (SqL.of hl), fun ln hln => ?_⟩
    have np : p ≠ ln := ne_of_none hp hln
    refine ⟨_, rfl, p, CD K, dx, [], rfl, by rw [upd_ne np]; exact hp, C0, noat_Drawn_numbers T, by show 0 < 1000; decide, ?_⟩
    refine ⟨_, rfl, p, CD K, dx, _, rfl, upd_same, C0, noat_Drawn_calls T, by show 1 < 1000; decide, ?_⟩
    rw [upd_upd, df_new]
    exact q ln hln
  exact ⟨_, fd, _, _, mkr_Drawn_ T, RO, g_Drawn T, RB, .nil⟩
end Pf
namespace Bs
open PySem PySem.Spec PyProof.Rows L2
variable {P : Program} {w : World} {K : PySem.W.Frag} {mg : Str → Option Value} {base : Heap}
def spLaw (K : PySem.W.Frag) : Sp := fun vs H Q _ => ∃ (a : Addr) (ns : List Int), vs = [.ref a] ∧ Fz K H a (ns.map V.int) ∧ ns.length ≤ 63 ∧ ∀ H' : Hp, Q (.bl true) H'
/-! ### a list of moves, as data -/
def tD (q : Addr × List Int) : PyData := .tuple (q.2.map PyData.int)
def mvD (ms : List (Addr × List Int)) : PyData := .list (ms.map tD)
theorem dp_tD {H : Hp} {q : Addr × List Int} (h : H q.1 = some (.tup (q.2.map V.int))) : Dp K H (.ref q.1) (tD q) := .tup (SqT.of h) (dp_ints q.2)
theorem dp_mv {H : Hp} : ∀ ms : List (Addr × List Int), (∀ q ∈ ms, H q.1 = some (.tup (q.2.map V.int))) → DpAll K H (ms.map fun q => V.ref q.1) (ms.map tD)
  | [], _ => .nil
  | q :: r, h => .cons (dp_tD (h q List.mem_cons_self)) (dp_mv r fun z hz => h z (List.mem_cons_of_mem _ hz))
theorem eqv_ints : ∀ ns : List Int, PyData.eqvAll (ns.map PyData.int) (ns.map PyData.int) = true
  | [] => by simp [PyData.eqvAll]
  | n :: r => by simp [PyData.eqvAll, PyData.eqv, eqv_ints r]
theorem eqv_tD (q : Addr × List Int) : (tD q).eqv (tD q) = true := by
  show PyData.eqvAll _ _ = true
  exact eqv_ints q.2
theorem small_log {x : Int} (h : 0 ≤ x ∧ x < 64) : x.natAbs.log2 < 1920 := by
  have h1 := Nat.log2_le_self x.natAbs
  omega
structure Easy (d : PyData) : Prop where
  lay : d.canLay0 = true
  show_ : d.showable = true
  nod : d.hasDict = false
  dep : d.depth ≤ 1
  wt : d.weight ≤ 195
  short : d.intsShort 13 = true
theorem lay_list : ∀ ns : List Int, PyData.canLayAll0 (ns.map PyData.int) = true ∧ PyData.depthAll (ns.map PyData.int) = 0 ∧ PyData.hasDictAll (ns.map PyData.int) = false
  | [] => ⟨by simp [PyData.canLayAll0], by simp [PyData.depthAll], by simp [PyData.hasDictAll]⟩
  | n :: r => by
    obtain ⟨h1, h2, h3⟩ := lay_list r
    exact ⟨by simp [PyData.canLayAll0, PyData.canLay0, h1], by simp [PyData.depthAll, PyData.depth, h2], by simp [PyData.hasDictAll, PyData.hasDict, h3]⟩
theorem wt_list : ∀ ns : List Int, (∀ x ∈ ns, 0 ≤ x ∧ x < 64) → PyData.weightAll (ns.map PyData.int) ≤ 65 * ns.length
  | [], _ => by simp [PyData.weightAll]
  | n :: r, h => by
    have h1 := h n List.mem_cons_self
    have h2 := wt_list r fun x hx => h x (List.mem_cons_of_mem _ hx)
    have h3 := Nat.log2_le_self n.natAbs
    simp only [List.map_cons, PyData.weightAll, PyData.weight, List.length_cons]
    split <;> omega
theorem show_list : ∀ ns : List Int, (∀ x ∈ ns, 0 ≤ x ∧ x < 64) → PyData.showableAll (ns.map PyData.int) = true
  | [], _ => by simp [PyData.showableAll]
  | n :: r, h => by
    have h1 := small_log (h n List.mem_cons_self)
    have h2 := show_list r fun x hx => h x (List.mem_cons_of_mem _ hx)
    simp [PyData.showableAll, PyData.showable, h1, h2]
theorem easy_tD {G : Hp} {q : Addr × List Int} (h : Mv G q) : Easy (tD q) := by
  obtain ⟨_, h3, hb⟩ := h
  obtain ⟨l1, l2, l3⟩ := lay_list q.2
  have l4 := wt_list q.2 hb
  refine ⟨by simpa [tD, PyData.canLay0] using l1, by simpa [tD, PyData.showable] using show_list q.2 hb, by simpa [tD, PyData.hasDict] using l3, ?_, ?_, ?_⟩
  · show PyData.depthAll _ + 1 ≤ 1
    omega
  · show PyData.weightAll _ ≤ 195
    omega
  · show PyData.intsShortAll 13 _ = true
    exact PyData.intsShortAll_ints q.2 fun n hn => by
      have := hb n hn
      have e : (10 : Nat) ^ 12 = 1000000000000 := by decide
      omega
theorem easy_all : ∀ ds : List PyData, (∀ d ∈ ds, Easy d) → PyData.canLayAll0 ds = true ∧ PyData.showableAll ds = true ∧ PyData.hasDictAll ds = false ∧ PyData.depthAll ds ≤ 1 ∧ PyData.weightAll ds ≤ 196 * ds.length ∧ PyData.intsShortAll 13 ds = true
  | [], _ => ⟨by simp [PyData.canLayAll0], by simp [PyData.showableAll], by simp [PyData.hasDictAll], by simp [PyData.depthAll], by simp [PyData.weightAll], by simp [PyData.intsShortAll]⟩
  | d :: r, h => by
    obtain ⟨h1, h2, h3, h4, h5, h6⟩ := easy_all r fun x hx => h x (List.mem_cons_of_mem _ hx)
    obtain ⟨e1, e2, e3, e4, e5, e6⟩ := h d List.mem_cons_self
    refine ⟨by simp [PyData.canLayAll0, e1, h1], by simp [PyData.showableAll, e2, h2], by simp [PyData.hasDictAll, e3, h3], ?_, ?_, by simp [PyData.intsShortAll, e6, h6]⟩
    · simp only [PyData.depthAll]; omega
    · simp only [PyData.weightAll, List.length_cons]; omega
/-- what repr asks of a list of moves -/
theorem mv_repr {G : Hp} {ms : List (Addr × List Int)} (h : ∀ q ∈ ms, Mv G q) (l : ms.length < 64) : isDisplay (mvD ms) = true ∧ (mvD ms).showable = true ∧ (mvD ms).hasDict = false ∧ (mvD ms).depth ≤ 60 ∧ (mvD ms).shown.length ≤ sizeLine := by
  obtain ⟨h1, h2, h3, h4, h5, h6⟩ := easy_all (ms.map tD) fun d hd => by
    obtain ⟨q, hq, rfl⟩ := List.mem_map.mp hd
    exact easy_tD (h q hq)
  rw [List.length_map] at h5
  have d1 : (mvD ms).depth ≤ 2 := by show PyData.depthAll _ + 1 ≤ 2; omega
  refine ⟨rfl, by simpa [mvD, PyData.showable] using h2, by simpa [mvD, PyData.hasDict] using h3, by omega, ?_⟩
  refine PyData.shown_fits_of_layable0 (B := 13) (by decide) (by decide) ?_ (by simpa [mvD, PyData.intsShort] using h6)
  have e : (2 : Nat) ^ 20 = 1048576 := by decide
  unfold PyData.layable0
  rw [show (mvD ms).canLay0 = true by simpa [mvD, PyData.canLay0] using h1]
  simp only [Bool.true_and, Bool.and_eq_true, decide_eq_true_eq]
  refine ⟨by omega, ?_⟩
  show PyData.weightAll _ ≤ _
  omega
theorem atI_mv {ms : List (Addr × List Int)} {i : Int} (h0 : 0 ≤ i) (h1 : i < (ms.map fun q => V.ref q.1).length) : ∃ q ∈ ms, atI (ms.map fun q => V.ref q.1) i = some (.ref q.1) := by
  obtain ⟨n, rfl⟩ := Int.eq_ofNat_of_zero_le h0
  rw [List.length_map] at h1
  have hn : n < ms.length := by omega
  refine ⟨ms[n], List.getElem_mem hn, atI_nat ?_⟩
  rw [List.getElem?_map, List.getElem?_eq_getElem hn]
  rfl
theorem atI_mv0 {ms : List (Addr × List Int)} (h : ms ≠ []) : ∃ q ∈ ms, atI (ms.map fun q => V.ref q.1) 0 = some (.ref q.1) := by
  cases ms with
  | nil => exact absurd rfl h
  | cons q r => exact ⟨q, List.mem_cons_self, atI_nat (j := 0) rfl⟩
theorem atI_mv1 {ms : List (Addr × List Int)} (h : ms ≠ []) : ∃ q ∈ ms, atI (ms.map fun q => V.ref q.1) (-1) = some (.ref q.1) := by
  refine ⟨ms.getLast h, List.getLast_mem h, ?_⟩
  rw [show ms.map (fun q => V.ref q.1) = (ms.dropLast.map fun q => V.ref q.1) ++ [V.ref (ms.getLast h).1] by
    conv => lhs; rw [← List.dropLast_concat_getLast h]
    rw [List.map_append]; rfl]
  exact atI_last _ _
theorem shp {q : Addr × List Int} {G : Hp} (h : Mv G q) : SeqAt.shaped (tD q) = true := by
  have e := easy_tD h
  unfold SeqAt.shaped
  rw [e.lay, Bool.true_and, decide_eq_true_eq]
  have := e.dep
  omega
/-- a Drawn is made: the numbers copied, none counted -/
theorem drawnMade {C : Addr} {G H : Hp} {x dx lh : Addr} {nums : List Int} {Q : VK} {E : XK} (gh : Same G H) (hl : H lh = some (.lst (nums.map V.int))) (hx : H x = none) (hdx : H dx = none)
    (k : ∀ ln G' H', Step none G H G' H' → G' ln = some (.lst (nums.map V.int)) → H' x = some (.ins C dx (df ln 0)) → G' x = none → Q .non H') : spDrawnI C [.ref x, .ref lh] (upd (upd H dx (.own x)) x (.ins C dx [])) Q E := by
  have lx : lh ≠ x := ne_of_none hl hx
  have ld : lh ≠ dx := ne_of_none hl hdx
  refine ⟨x, lh, dx, nums, rfl, by rw [upd_ne lx, upd_ne ld]; exact hl, upd_same, fun ln hln => ?_⟩
  have s1 : Step none G H G (upd H dx (.own x)) := (Step.refl gh).loc hdx (gh.free hdx)
  have s2 := s1.loc (q := x) (o := .ins C dx []) hx (gh.free hx)
  have nx : x ≠ ln := ne_of_none (upd_same : upd (upd H dx (.own x)) x (HO.ins C dx []) x = _) hln
  have s3 := s2.new_ (o := .lst (nums.map V.int)) hln
  have gx : upd G ln (.lst (nums.map V.int)) x = none := by rw [upd_ne nx]; exact gh.free hx
  exact k ln _ _ (s3.loc (q := x) (o := .ins C dx (df ln 0)) hx gx) upd_same upd_same gx
theorem made0 {C : Addr} {G H : Hp} {x dx : Addr} (gh : Same G H) (hx : H x = none) (hdx : H dx = none) (ne : dx ≠ x) : Step none G H (upd G x (.ins C dx [])) (upd (upd H dx (.own x)) x (.ins C dx [])) :=
  ((Step.refl gh).loc hdx (gh.free hdx)).new_ (by rw [upd_ne ne.symm]; exact hx)
structure Its where
  p : Addr
  D : Addr
  a1 : Addr
  a2 : Addr
  lc : Addr
  n1 : Addr
  n2 : Addr
  f : Addr
  l : Addr
  d1 : Addr
  d2 : Addr
  df : Addr
  dl : Addr
/-- what stands through the turns -/
structure Lv (CD CF CL : Addr) (I : Its) (nums : List Int) (G H : Hp) (n : Nat) (k1 k2 c1 c2 : Int) : Prop where
  pq : Pq G H I.p n
  nD : G I.D = some (.lst (nums.map V.int))
  n1 : G I.n1 = some (.lst (nums.map V.int))
  n2 : G I.n2 = some (.lst (nums.map V.int))
  f : G I.f = some (.ins CF I.df [])
  l : G I.l = some (.ins CL I.dl [])
  o1 : G I.a1 = none
  o2 : G I.a2 = none
  oc : G I.lc = none
  p1 : I.a1 ≠ I.p
  p2 : I.a2 ≠ I.p
  pc : I.lc ≠ I.p
  h1 : H I.a1 = some (.ins CD I.d1 (Bs.df I.n1 k1))
  h2 : H I.a2 = some (.ins CD I.d2 (Bs.df I.n2 k2))
  hc : H I.lc = some (.lst [.int c1, .int c2])
  x12 : I.a1 ≠ I.a2
section
variable {CD CF CL : Addr} {I : Its} {nums : List Int} {G H G' H' : Hp} {n m : Nat} {k1 k2 c1 c2 j1 j2 : Int}
theorem Lv.step (v : Lv CD CF CL I nums G H n k1 k2 c1 c2) (s : Step (some I.p) G H G' H') (P : Pq G' H' I.p m) : Lv CD CF CL I nums G' H' m k1 k2 c1 c2 :=
  ⟨P, s.gg _ _ v.nD, s.gg _ _ v.n1, s.gg _ _ v.n2, s.gg _ _ v.f, s.gg _ _ v.l, s.out v.o1 (by rw [v.h1]; exact fun z => by cases z), s.out v.o2 (by rw [v.h2]; exact fun z => by cases z), s.out v.oc (by rw [v.hc]; exact fun z => by cases z), v.p1, v.p2, v.pc,
    s.kp _ _ v.h1 (fun z => v.p1 (Option.some.inj z)), s.kp _ _ v.h2 (fun z => v.p2 (Option.some.inj z)), s.kp _ _ v.hc (fun z => v.pc (Option.some.inj z)), v.x12⟩
theorem Lv.mono (v : Lv CD CF CL I nums G H n k1 k2 c1 c2) (h : n ≤ m) : Lv CD CF CL I nums G H m k1 k2 c1 c2 := { v with pq := v.pq.mono h }
theorem Lv.loc (v : Lv CD CF CL I nums G H n k1 k2 c1 c2) {q : Addr} {o : HO} (hq : H q = none) : Lv CD CF CL I nums G (upd H q o) n k1 k2 c1 c2 :=
  let s := v.pq.loc (o := o) hq
  v.step s.1 s.2
theorem Lv.cnt (v : Lv CD CF CL I nums G H n k1 k2 c1 c2) : Lv CD CF CL I nums G (upd H I.lc (.lst [.int j1, .int j2])) n k1 k2 j1 j2 :=
  ⟨v.pq.local_ v.oc v.pc, v.nD, v.n1, v.n2, v.f, v.l, v.o1, v.o2, v.oc, v.p1, v.p2, v.pc, by rw [upd_ne (ne_of v.h1 v.hc (by intro z; cases z))]; exact v.h1, by rw [upd_ne (ne_of v.h2 v.hc (by intro z; cases z))]; exact v.h2, upd_same, v.x12⟩
theorem Lv.put1 (v : Lv CD CF CL I nums G H n k1 k2 c1 c2) : Lv CD CF CL I nums G (upd H I.a1 (.ins CD I.d1 (Bs.df I.n1 j1))) n j1 k2 c1 c2 :=
  ⟨v.pq.local_ v.o1 v.p1, v.nD, v.n1, v.n2, v.f, v.l, v.o1, v.o2, v.oc, v.p1, v.p2, v.pc, upd_same, by rw [upd_ne v.x12.symm]; exact v.h2, by rw [upd_ne (ne_of v.hc v.h1 (by intro z; cases z))]; exact v.hc, v.x12⟩
theorem Lv.put2 (v : Lv CD CF CL I nums G H n k1 k2 c1 c2) : Lv CD CF CL I nums G (upd H I.a2 (.ins CD I.d2 (Bs.df I.n2 j2))) n k1 j2 c1 c2 :=
  ⟨v.pq.local_ v.o2 v.p2, v.nD, v.n1, v.n2, v.f, v.l, v.o1, v.o2, v.oc, v.p1, v.p2, v.pc, by rw [upd_ne v.x12]; exact v.h1, upd_same, by rw [upd_ne (ne_of v.hc v.h2 (by intro z; cases z))]; exact v.hc, v.x12⟩
end
end Bs
namespace Pf
open PySem PySem.Spec PyProof.Rows L2 Bs
variable {P : Program} {w : World} {K : PySem.W.Frag} {mg : Str → Option Value} {base : Heap}
abbrev N_law : List Str := ["_law_script", "_law_pen_here", "_law_numbers", "_law_handed", "_law_one", "_law_two", "_law_first", "_law_last", "_law_calls", "_law_turn", "_law_moves_here", "_law_before", "_law_at", "_law_number_here", "_law_chooser"]
theorem sc_law : FnScope N_law ["_law_script"] (defScope s_law) := ⟨rfl, rfl, rfl, by decide +kernel, rfl, by decide +kernel, by decide +kernel⟩
theorem o_law (T : Tx K mg) {fd : FuncData} (F : FunD K d_law.2.name d_law.2.qual d_law.2.params d_law.2.body d_law.2.scope (d_law.2.dvs K) (d_law.2.kws K) (d_law.1 K) fd) : Gd.FnG P w K mg base 6 (d_law.1 K) fd ["_law_script"] (spLaw K) := by
  have c_Lpen := c_Lpen (P := P) (w := w) (base := base) T
  have c_Ldraw := c_Ldraw (P := P) (w := w) (base := base) T
  have c_Lnumber := c_Lnumber (P := P) (w := w) (base := base) T
  have c_Lmoves := c_Lmoves (P := P) (w := w) (base := base) T
  have m_Drawn := m_Drawn (P := P) (w := w) (base := base) T
  have FR_First := FR_First (P := P) (w := w) (base := base) T
  have FR_Last := FR_Last (P := P) (w := w) (base := base) T
  have FR_Drawn := FR_Drawn (P := P) (w := w) (base := base) T
  have n0_First := n0_First T
  have n0_Last := n0_Last T
  have co_First := co_First T
  have co_Last := co_Last T
  have co_Drawn := co_Drawn T
  refine Gd.mkG (k := 5) F sc_law (fun vs H Q E h => ?_) (fun cdv A outer s H vs Q E un hr h => ?_)
  · obtain ⟨a, ns, rfl, _⟩ := h
    rfl
  obtain ⟨a, ns, rfl, hS, h63, q⟩ := h
  have sl : sizeLine = 16777216 := rfl
  refine ⟨_, (pss_cons (ps_set (i := 1) sc_law.nd rfl (Or.inr rfl) (C8.pe_c c_Lpen hr (by first | decide | omega) rfl (pa_cons (pv 0) pa_nil)))
    (pss_cons (ps_setLc (i := 2) (own := [("_law_turn", 9)]) rfl sc_law.nd rfl rfl (sw_true rfl rfl rfl (by decide +kernel)) (pi_range1 (by rfl) (z_range T) (pa_cons (pe_op op_add pe_int (C8.pe_c c_Ldraw hr (by first | decide | omega) rfl (pa_cons (pv 1) (pa_cons pe_int pa_nil)))) pa_nil)) (blkOk_by (N := N_law) (sc := defScope s_law) (by decide +kernel)) (fun _ _ _ _ _ => (pg_name (i := 9) sc_law.nd rfl (Or.inl rfl))) (fun _ _ _ _ _ => pts_nil) (fun _ _ _ _ _ => (C8.pe_c c_Lnumber hr (by first | decide | omega) rfl (pa_cons (pv 1) pa_nil))))
    (pss_cons (ps_set (i := 3) sc_law.nd rfl (Or.inl rfl) (pe_callTy call_list_of (by rfl) (z_list T) boot_list (pa_cons (pv 2) pa_nil)))
    (pss_cons (ps_set (i := 4) sc_law.nd rfl (Or.inl rfl) (C8.pe_mk m_Drawn hr (by first | decide | omega) rfl (pa_cons (pv 3) pa_nil)))
    (pss_cons (ps_set (i := 5) sc_law.nd rfl (Or.inl rfl) (C8.pe_mk m_Drawn hr (by first | decide | omega) rfl (pa_cons (pv 3) pa_nil)))
    (pss_cons (ps_expr (pe_bm0 PySem.F.plainAttrs_list PySem.F.slot_list_clear PySem.F.type_list_clear mt_clear (pv 3)))
    (pss_cons (ps_expr (pe_bm PySem.F.plainAttrs_list PySem.F.slot_list_append PySem.F.type_list_append mt_append (pv 3) (pa_cons pe_int pa_nil)))
    (pss_cons (ps_set (i := 6) sc_law.nd rfl (Or.inl rfl) (Gd.pe_new0 n0_First rfl (by exact g_First T)))
    (pss_cons (ps_set (i := 7) sc_law.nd rfl (Or.inl rfl) (Gd.pe_new0 n0_Last rfl (by exact g_Last T)))
    (pss_cons (ps_set (i := 8) sc_law.nd rfl (Or.inl rfl) (pe_lst (pa_cons pe_int (pa_cons pe_int pa_nil))))
    (pss_cons (ps_for PassesOwn.never rfl (pi_range1 (by rfl) (z_range T) (pa_cons pe_int pa_nil)) (pg_name (i := 9) sc_law.nd rfl (Or.inl rfl)) (pss_cons (ps_set (i := 10) sc_law.nd rfl (Or.inl rfl) (C8.pe_c c_Lmoves hr (by first | decide | omega) rfl (pa_cons (pv 1) pa_nil)))
    (pss_cons (ps_set (i := 11) sc_law.nd rfl (Or.inl rfl) (pe_callB (Gd.call_reprD (K := K) rfl un hr.units) (by rfl) (z_repr T) boot_repr (pa_cons (pv 10) pa_nil)))
    (pss_cons (ps_if (PW.pt (pw_or (pt_cmpR (op_neD hr.units) (StX.pe_callO (E := C8.E0) (pv 6) co_First FR_First (hr.mono (by decide)) C8.pass0 (pa_cons (pv 10) pa_nil)) (pe_ix (ix_listK (K := K) rfl) (pv 10) pe_int (fun _ _ => rfl)) (nomark _)) (pw_or1 (pt_cmpR (op_neD hr.units) (StX.pe_callO (E := C8.E0) (pv 7) co_Last FR_Last (hr.mono (by decide)) C8.pass0 (pa_cons (pv 10) pa_nil)) (pe_ix (ix_listK (K := K) rfl) (pv 10) (pe_un un_neg pe_int) (fun _ _ => rfl)) (nomark _))))) (pss_one (ps_ret pe_bl)) pss_nil)
    (pss_cons (ps_for PassesOwn.never rfl (pi_range1 (by rfl) (z_range T) (pa_cons (pe_op op_add pe_int (pe_callTy call_int1 (by rfl) (z_int T) boot_int (pa_cons (pe_cmpR op_eq (C8.pe_c c_Ldraw hr (by first | decide | omega) rfl (pa_cons (pv 1) (pa_cons pe_int pa_nil))) pe_int (nomark _)) pa_nil))) pa_nil)) (pg_name (i := 12) sc_law.nd rfl (Or.inl rfl)) (pss_cons (ps_set (i := 13) sc_law.nd rfl (Or.inl rfl) (pe_ix (ix_listK (K := K) rfl) (pv 2) (pe_op op_modN (pe_ix (ix_listK (K := K) rfl) (pv 8) (pv 12) (fun _ _ => rfl)) (pe_callB (call_len_seqK (K := K) rfl) (by rfl) (z_len T) boot_len (pa_cons (pv 2) pa_nil))) (fun _ _ => rfl)))
    (pss_cons (ps_asg (pe_op op_add (pe_ix (ix_listK (K := K) rfl) (pv 8) (pv 12) (fun _ _ => rfl)) pe_int) (pg_sub (pv 8) (pv 12) set_list))
    (pss_cons (ps_set (i := 14) sc_law.nd rfl (Or.inl rfl) (pe_ix (ix_listK (K := K) rfl) (pe_lst (pa_cons (pv 4) (pa_cons (pv 5) pa_nil))) (pv 12) (fun _ _ => rfl)))
    (pss_one (ps_if (pt_cmpR (op_neD hr.units) (StX.pe_callO (E := C8.E0) (pv 14) co_Drawn FR_Drawn (hr.mono (by decide)) C8.pass0 (pa_cons (pv 10) pa_nil)) (pe_ix (ix_listK (K := K) rfl) (pv 10) (pe_op op_modN (pe_callTy call_int1 (by rfl) (z_int T) boot_int (pa_cons (pv 13) pa_nil)) (pe_callB (call_len_seqK (K := K) rfl) (by rfl) (z_len T) boot_len (pa_cons (pv 10) pa_nil))) (fun _ _ => rfl)) (nomark _)) (pss_one (ps_ret pe_bl)) pss_nil))))))
    (pss_one (ps_if (pt_cmpR op_ne (pe_callB (Gd.call_reprD (K := K) rfl un hr.units) (by rfl) (z_repr T) boot_repr (pa_cons (pv 10) pa_nil)) (pv 11) (nomark _)) (pss_one (ps_ret pe_bl)) pss_nil)))))))
    (pss_one (ps_ret (pe_and (pe_cmpR (op_eqD hr.units) (StX.pe_callO (E := C8.E0) (pv 6) co_First FR_First (hr.mono (by decide)) C8.pass0 (pa_cons (pe_lst (pa_cons (pe_tup (pa_cons pe_int (pa_cons pe_int (pa_cons pe_int pa_nil)))) pa_nil)) pa_nil)) (pe_tup (pa_cons pe_int (pa_cons pe_int (pa_cons pe_int pa_nil)))) (nomark _)) (pe_one (pe_cmpR (op_eqD hr.units) (StX.pe_callO (E := C8.E0) (pv 7) co_Last FR_Last (hr.mono (by decide)) C8.pass0 (pa_cons (pe_lst (pa_cons (pe_tup (pa_cons pe_int (pa_cons pe_int (pa_cons pe_int pa_nil)))) pa_nil)) pa_nil)) (pe_tup (pa_cons pe_int (pa_cons pe_int (pa_cons pe_int pa_nil)))) (nomark _))))))))))))))))), ?_⟩
  refine ⟨_, rfl, a, ns, rfl, hS.sq, fun p G1 H1 k1 P1 => ?_⟩
  refine ⟨_, rfl, G1, p, 0, 5, rfl, P1, by omega, by decide, by decide, fun d1 G2 H2 s2 P2 a2 b2 => ⟨_, _, rfl, rfl, _, rfl, by omega, by omega, fun D hD => ?_⟩⟩
  have nDp : D ≠ p := fun z => P2.there (by rw [← z]; exact hD)
  have gD : G2 D = none := P2.gh.free hD
  obtain ⟨sD, PD⟩ := P2.loc (o := .lst []) hD
  refine lc_range (lo := 0) (n := (1 + d1).toNat) (fun i H' => ∃ (G' : Hp) (ns : List Int), Step (some p) G1 H1 G' H' ∧ Pq G' H' p (1 + 2 * i) ∧ G' D = none ∧ H' D = some (.lst (ns.map V.int)) ∧ ns.length = i)
    ⟨G2, [], s2.trans sD, PD, gD, upd_same, rfl⟩ ?_ ?_
  · rintro i H' hi ⟨G', ns, st, ps, g', hL, rfl⟩
    have hi5 : ns.length < 5 := by omega
    refine ⟨rfl, ?_⟩
    unfold tYes
    refine iteT ⟨_, rfl, G', p, _, rfl, ps, by omega, fun x Ga Ha sa Pa => ?_⟩
    have hLa := sa.kpc _ _ hL nDp
    have ga := sa.out g' (by rw [hL]; exact fun z => by cases z)
    have hD1 : H1 D = none := s2.free hD
    exact ⟨_, hLa, by rw [List.length_map]; omega, Ga, ns ++ [x], (st.trans sa).loc hD1 ga, (Pa.mono (by omega)).local_ ga nDp, ga, by rw [upd_same, List.map_append]; rfl, by rw [List.length_append]; rfl⟩
  rintro H3 ⟨G3, nums, s3, P3, g3D, hL3, hnl⟩
  have hD1 : H1 D = none := s2.free hD
  have n0 : 0 < nums.length := by omega
  have P3 := P3.mono (show 1 + 2 * (1 + d1).toNat ≤ 20 by omega)
  clear sD PD s2 P2 gD
  refine ⟨_, rfl, D, _, rfl, .inl (SqL.of hL3), fun lh hlh => ?_⟩
  have n_h : D ≠ lh := ne_of_none hL3 hlh
  have sF := s3.freeze (q := D) hD1 hL3 g3D
  have P4 : Pq (upd G3 D (.lst (nums.map V.int))) H3 p 20 := by
    obtain ⟨c, ms, i, l, h1, h2, h3, h4, h5, h6⟩ := P3.pen
    exact ⟨sF.gh, by rw [upd_ne nDp.symm]; exact P3.out, c, ms, i, l, h1, by rw [upd_ne (fun z => by rw [z, g3D] at h2; cases h2)]; exact h2, h3, h4, h5, h6⟩
  have gN : upd G3 D (.lst (nums.map V.int)) D = some (.lst (nums.map V.int)) := upd_same
  generalize upd G3 D (.lst (nums.map V.int)) = G4 at *
  obtain ⟨s5, P5⟩ := P4.loc (o := .lst (nums.map V.int)) hlh
  have h1h : H1 lh = none := sF.free hlh
  have g4h : G4 lh = none := P4.gh.free hlh
  have nhp : lh ≠ p := fun z => P4.there (by rw [← z]; exact hlh)
  have s5 := sF.trans s5
  have hh5 : upd H3 lh (.lst (nums.map V.int)) lh = some (.lst (nums.map V.int)) := upd_same
  generalize upd H3 lh (.lst (nums.map V.int)) = H5 at *
  clear sF P4 hL3 g3D s3 P3 hlh n_h
  refine ⟨_, rfl, fun a1 dx1 e1 e2 ne1 => drawnMade P5.gh hh5 e1 e2 fun ln1 G6 H6 s6 gn1 h1 g1 => ⟨rfl, ?_⟩⟩
  have P6 := P5.step s6
  have gl6 := s6.out g4h (by rw [hh5]; exact fun z => by cases z)
  refine ⟨_, rfl, fun a2 dx2 e3 e4 ne2 => drawnMade P6.gh (s6.same _ _ hh5) e3 e4 fun ln2 G7 H7 s7 gn2 h2 g2 => ⟨rfl, ?_⟩⟩
  have P7 := P6.step s7
  have gl7 := s7.out gl6 (by rw [s6.same _ _ hh5]; exact fun z => by cases z)
  have g17 := s7.out g1 (by rw [h1]; exact fun z => by cases z)
  have h17 := s7.same _ _ h1
  have hl7 := s7.same _ _ (s6.same _ _ hh5)
  have x12 : a1 ≠ a2 := ne_of_none h1 e3
  have l1 : a1 ≠ lh := ne_of h17 hl7 (by intro z; cases z)
  have l2 : a2 ≠ lh := ne_of h2 hl7 (by intro z; cases z)
  refine ⟨_, rfl, .inl ⟨rfl, _, SqL.of hl7⟩, lh, _, rfl, rfl, hl7, ?_⟩
  refine ⟨_, rfl, .inl ⟨rfl, _, SqL.of upd_same⟩, lh, [], _, rfl, rfl, upd_same, by show 0 < sizeLine; decide, ?_⟩
  have P8 := (P7.local_ (o := .lst []) gl7 nhp).local_ (o := .lst ([] ++ [V.int 0])) gl7 nhp
  have h18 : upd (upd H7 lh (.lst [])) lh (.lst ([] ++ [V.int 0])) a1 = some (.ins (CD K) dx1 (df ln1 0)) := by rw [upd_ne l1, upd_ne l1]; exact h17
  have h28 : upd (upd H7 lh (.lst [])) lh (.lst ([] ++ [V.int 0])) a2 = some (.ins (CD K) dx2 (df ln2 0)) := by rw [upd_ne l2, upd_ne l2]; exact h2
  generalize upd (upd H7 lh (.lst [])) lh (.lst ([] ++ [V.int 0])) = H8 at *
  have p1 : a1 ≠ p := fun z => P5.there (by rw [← z]; exact e1)
  have p2 : a2 ≠ p := fun z => P6.there (by rw [← z]; exact e3)
  refine fun f1 df1 e5 e6 ne3 => ?_
  have s9 := made0 (C := He.ga K "First") P8.gh e5 e6 ne3
  have gf : upd G7 f1 (.ins (He.ga K "First") df1 []) f1 = some (.ins (He.ga K "First") df1 []) := upd_same
  have P9 := P8.step s9
  generalize upd G7 f1 (.ins (He.ga K "First") df1 []) = G9 at *
  generalize upd (upd H8 df1 (.own f1)) f1 (.ins (He.ga K "First") df1 []) = H9 at *
  refine fun l1' dl1 e7 e8 ne4 => ?_
  have s10 := made0 (C := He.ga K "Last") P9.gh e7 e8 ne4
  have gl : upd G9 l1' (.ins (He.ga K "Last") dl1 []) l1' = some (.ins (He.ga K "Last") dl1 []) := upd_same
  have P10 := P9.step s10
  generalize upd G9 l1' (.ins (He.ga K "Last") dl1 []) = G10 at *
  generalize upd (upd H9 dl1 (.own l1')) l1' (.ins (He.ga K "Last") dl1 []) = H10 at *
  refine ⟨by show 2 ≤ sizeLine; decide, fun lc e9 => ?_⟩
  have s11 : Step none G10 H10 G10 (upd H10 lc (.lst [.int 0, .int 0])) := (Step.refl P10.gh).loc e9 (P10.gh.free e9)
  have s810 := s9.trans s10
  have s811 := s810.trans s11
  have V0 : Lv (CD K) (He.ga K "First") (He.ga K "Last") ⟨p, D, a1, a2, lc, ln1, ln2, f1, l1', dx1, dx2, df1, dl1⟩ nums G10 (upd H10 lc (.lst [.int 0, .int 0])) 20 0 0 0 0 :=
    ⟨P10.step s11, s810.gg _ _ (s7.gg _ _ (s6.gg _ _ gN)), s810.gg _ _ (s7.gg _ _ gn1), s810.gg _ _ gn2, s10.gg _ _ gf, gl, s810.out g17 (by rw [h18]; exact fun z => by cases z), s810.out g2 (by rw [h28]; exact fun z => by cases z), P10.gh.free e9, p1, p2, fun z => P10.there ((show lc = p from z) ▸ e9), s811.same _ _ h18, s811.same _ _ h28, upd_same, x12⟩
  generalize upd H10 lc (.lst [.int 0, .int 0]) = H11 at *
  clear s11 s10 s9 s811 s810 P10 P9 P8 P7 P6 P5
  generalize eI : (⟨p, D, a1, a2, lc, ln1, ln2, f1, l1', dx1, dx2, df1, dl1⟩ : Its) = I at V0
  refine ⟨12, rfl, by decide, by decide, for_range (lo := 0) (n := 12) (fun i σ H' => ∃ (v9 v10 v11 v12 v13 v14 : Option V) (G' : Hp) (k1 k2 : Int), σ = [some (.ref a), some (.ref I.p), some (.ref I.D), some (.ref lh), some (.ref I.a1), some (.ref I.a2), some (.ref I.f), some (.ref I.l), some (.ref I.lc), v9, v10, v11, v12, v13, v14] ∧ Lv (CD K) (He.ga K "First") (He.ga K "Last") I nums G' H' (20 + 27 * i) k1 k2 k1 k2)
    ⟨_, _, _, _, _, _, G10, 0, 0, by subst eI; rfl, V0⟩ ?_ ?_⟩
  · clear V0 eI
    rintro i σ H' hi ⟨v9, v10, v11, v12, v13, v14, G', k1, k2, rfl, V1⟩
    refine ⟨_, rfl, G', I.p, 20 + 27 * i, rfl, V1.pq, by omega, fun L ms Ga Ha sa Pa gL hne h64 hmv => ?_⟩
    have Va := V1.step sa Pa
    clear V1 sa Pa
    have dpL : ∀ {G2 H2 : Hp}, Same Ga G2 → Same G2 H2 → Dp K H2 (.ref L) (mvD ms) := fun {G2 H2} g h => .lst (SqL.of (h _ _ (g _ _ gL))) (dp_mv ms fun q hq => h _ _ (g _ _ (hmv q hq).1))
    have sqL : ∀ {G2 H2 : Hp}, Same Ga G2 → Same G2 H2 → H2 L = some (.lst (ms.map fun q => V.ref q.1)) := fun {G2 H2} g h => h _ _ (g _ _ gL)
    have dpQ : ∀ {G2 H2 : Hp} {q : Addr × List Int}, q ∈ ms → Same Ga G2 → Same G2 H2 → Dp K H2 (.ref q.1) (tD q) := fun {G2 H2 q} hq g h => dp_tD (h _ _ (g _ _ (hmv q hq).1))
    have shQ : ∀ {q : Addr × List Int}, q ∈ ms → SeqAt.shaped (tD q) = true := fun {q} hq => shp (hmv q hq)
    obtain ⟨r1, r2, r3, r4, r5⟩ := mv_repr hmv h64
    obtain ⟨q0, hq0, at0⟩ := atI_mv0 hne
    obtain ⟨q1, hq1, at1⟩ := atI_mv1 hne
    have gg := Same.refl Ga
    have gh := Va.pq.gh
    refine ⟨_, rfl, _, _, rfl, dpL gg gh, r1, r2, r3, r4, r5, ?_⟩
    refine ⟨_, rfl, _, rfl, _, rfl, .inr ⟨_, _, gh _ _ Va.f⟩, _, L, _, _, rfl, sqL gg gh, at0, ?_⟩
    refine ⟨_, rfl, L, _, _, _, rfl, rfl, SqL.of (sqL gg gh), at0, _, _, dpQ hq0 gg gh, dpQ hq0 gg gh, shQ hq0, shQ hq0, _, rfl, ?_⟩
    rw [eqv_tD]
    refine iteF ?_
    refine ⟨_, rfl, _, rfl, _, rfl, .inr ⟨_, _, gh _ _ Va.l⟩, _, L, _, _, rfl, sqL gg gh, at1, ?_⟩
    refine ⟨_, rfl, _, rfl, L, _, _, _, rfl, rfl, SqL.of (sqL gg gh), at1, _, _, dpQ hq1 gg gh, dpQ hq1 gg gh, shQ hq1, shQ hq1, _, rfl, ?_⟩
    rw [eqv_tD]
    refine iteF ?_
    refine ⟨_, rfl, Ga, I.p, _, 3, rfl, Va.pq, by omega, by decide, by decide, fun x Gb Hb sb Pb xa xb => ?_⟩
    have Vb := Va.step sb Pb
    have ggb := sb.gg
    clear Va sb Pb gh gg
    refine ⟨rfl, .inr ⟨_, rfl, _, _, rfl, rfl, ?_⟩⟩
    obtain ⟨jj, ejj⟩ : ∃ jj : Int, jj = 1 + (if decide (V.int x = V.int 0) = true then 1 else 0) := ⟨_, rfl⟩
    have hjj : jj = 1 ∨ jj = 2 := by rw [ejj]; split <;> simp
    refine ⟨jj, congrArg (fun z => [V.int z]) ejj.symm, by omega, by omega, ?_⟩
    clear ejj
    refine for_range (lo := 0) (n := jj.toNat) (fun i2 σ H' => ∃ (v12 v13 v14 : Option V) (G' : Hp) (k1 k2 : Int), σ = [some (.ref a), some (.ref I.p), some (.ref I.D), some (.ref lh), some (.ref I.a1), some (.ref I.a2), some (.ref I.f), some (.ref I.l), some (.ref I.lc), some (.int (0 + i)), some (.ref L), some (.str (mvD ms).shown), v12, v13, v14] ∧ Same Ga G' ∧ Lv (CD K) (He.ga K "First") (He.ga K "Last") I nums G' H' (20 + 27 * (i + 1)) k1 k2 k1 k2)
      ⟨v12, v13, v14, Gb, k1, k2, rfl, ggb, Vb.mono (by omega)⟩ ?_ ?_
    · clear Vb ggb
      rintro i2 σ H' hi2 ⟨v12, v13, v14, G', k1, k2, rfl, gg, V1⟩
      have i01 : i2 = 0 ∨ i2 = 1 := by omega
      have lz : (nums.map V.int).length = nums.length := List.length_map _
      have lm : (ms.map fun q => V.ref q.1).length = ms.length := List.length_map _
      have ms0 : 0 < (ms.map fun q => V.ref q.1).length := by rw [lm]; exact List.length_pos_iff.mpr hne
      have hn0 : (0 : Int) < (nums.length : Nat) := by omega
      have hm0 : (0 : Int) < ((ms.map fun q => V.ref q.1).length : Nat) := by omega
      rcases i01 with rfl | rfl
      · obtain ⟨j, hj, _⟩ := atI_int (ns := nums) (Int.fmod_nonneg_of_pos k1 hn0) (Int.fmod_lt_of_pos k1 hn0)
        obtain ⟨q, hq, hv⟩ := atI_mv (ms := ms) (Int.fmod_nonneg_of_pos j hm0) (Int.fmod_lt_of_pos j hm0)
        have e0 : atI [V.int k1, V.int k2] (0 + (0 : Nat)) = some (.int k1) := rfl
        refine ⟨_, rfl, _, rfl, _, rfl, I.lc, _, _, _, rfl, rfl, SqL.of V1.hc, e0, _, rfl, I.D, _, rfl, .inl (SqL.of (V1.pq.gh _ _ V1.nD)), _, _, rfl, rfl, by omega, I.D, _, _, .int j, rfl, rfl, SqL.of (V1.pq.gh _ _ V1.nD), by rw [lz]; exact hj, ?_⟩
        refine ⟨_, rfl, _, rfl, I.lc, _, _, _, rfl, rfl, SqL.of V1.hc, e0, _, _, rfl, rfl, _, rfl, _, rfl, I.lc, _, _, 0, rfl, rfl, V1.hc, rfl, ?_⟩
        have V2 := V1.cnt (j1 := k1 + 1) (j2 := k2)
        dsimp only
        generalize eS : ([V.int k1, V.int k2] : List V).set 0 (V.int (k1 + 1)) = xs1
        obtain rfl : xs1 = [V.int (k1 + 1), V.int k2] := eS.symm.trans rfl
        clear eS
        generalize upd H' I.lc (.lst [V.int (k1 + 1), V.int k2]) = H2 at *
        refine ⟨_, rfl, _, rfl, by show 2 ≤ sizeLine; decide, fun lq hlq => ⟨_, rfl, lq, _, _, .ref I.a1, rfl, rfl, SqL.of upd_same, rfl, ?_⟩⟩
        have V3 := V2.loc (o := .lst [.ref I.a1, .ref I.a2]) hlq
        generalize upd H2 lq (.lst [.ref I.a1, .ref I.a2]) = H3 at *
        refine ⟨_, rfl, _, rfl, _, rfl, .inr ⟨_, _, V3.h1⟩, I.a1, L, I.d1, I.n1, k1, j, nums, _, .ref q.1, rfl, V3.h1, V3.pq.gh _ _ V3.n1, sqL gg V3.pq.gh, n0, ms0, hj, hv, ?_⟩
        have V4 := V3.put1 (j1 := k1 + 1)
        refine ⟨_, rfl, _, rfl, .inl ⟨_, rfl, _, rfl, L, _, rfl, .inl (SqL.of (sqL gg V4.pq.gh)), _, _, rfl, rfl, by omega, L, _, _, .ref q.1, rfl, rfl, SqL.of (sqL gg V4.pq.gh), hv, ?_⟩⟩
        refine ⟨_, _, dpQ hq gg V4.pq.gh, dpQ hq gg V4.pq.gh, shQ hq, shQ hq, _, rfl, ?_⟩
        rw [eqv_tD]
        exact iteF ⟨_, _, _, G', k1 + 1, k2, rfl, gg, V4⟩
      · obtain ⟨j, hj, _⟩ := atI_int (ns := nums) (Int.fmod_nonneg_of_pos k2 hn0) (Int.fmod_lt_of_pos k2 hn0)
        obtain ⟨q, hq, hv⟩ := atI_mv (ms := ms) (Int.fmod_nonneg_of_pos j hm0) (Int.fmod_lt_of_pos j hm0)
        have e0 : atI [V.int k1, V.int k2] (0 + (1 : Nat)) = some (.int k2) := rfl
        refine ⟨_, rfl, _, rfl, _, rfl, I.lc, _, _, _, rfl, rfl, SqL.of V1.hc, e0, _, rfl, I.D, _, rfl, .inl (SqL.of (V1.pq.gh _ _ V1.nD)), _, _, rfl, rfl, by omega, I.D, _, _, .int j, rfl, rfl, SqL.of (V1.pq.gh _ _ V1.nD), by rw [lz]; exact hj, ?_⟩
        refine ⟨_, rfl, _, rfl, I.lc, _, _, _, rfl, rfl, SqL.of V1.hc, e0, _, _, rfl, rfl, _, rfl, _, rfl, I.lc, _, _, 1, rfl, rfl, V1.hc, rfl, ?_⟩
        have V2 := V1.cnt (j1 := k1) (j2 := k2 + 1)
        dsimp only
        generalize eS : ([V.int k1, V.int k2] : List V).set 1 (V.int (k2 + 1)) = xs1
        obtain rfl : xs1 = [V.int k1, V.int (k2 + 1)] := eS.symm.trans rfl
        clear eS
        generalize upd H' I.lc (.lst [V.int k1, V.int (k2 + 1)]) = H2 at *
        refine ⟨_, rfl, _, rfl, by show 2 ≤ sizeLine; decide, fun lq hlq => ⟨_, rfl, lq, _, _, .ref I.a2, rfl, rfl, SqL.of upd_same, rfl, ?_⟩⟩
        have V3 := V2.loc (o := .lst [.ref I.a1, .ref I.a2]) hlq
        generalize upd H2 lq (.lst [.ref I.a1, .ref I.a2]) = H3 at *
        refine ⟨_, rfl, _, rfl, _, rfl, .inr ⟨_, _, V3.h2⟩, I.a2, L, I.d2, I.n2, k2, j, nums, _, .ref q.1, rfl, V3.h2, V3.pq.gh _ _ V3.n2, sqL gg V3.pq.gh, n0, ms0, hj, hv, ?_⟩
        have V4 := V3.put2 (j2 := k2 + 1)
        refine ⟨_, rfl, _, rfl, .inl ⟨_, rfl, _, rfl, L, _, rfl, .inl (SqL.of (sqL gg V4.pq.gh)), _, _, rfl, rfl, by omega, L, _, _, .ref q.1, rfl, rfl, SqL.of (sqL gg V4.pq.gh), hv, ?_⟩⟩
        refine ⟨_, _, dpQ hq gg V4.pq.gh, dpQ hq gg V4.pq.gh, shQ hq, shQ hq, _, rfl, ?_⟩
        rw [eqv_tD]
        exact iteF ⟨_, _, _, G', k1, k2 + 1, rfl, gg, V4⟩
    · rintro σ H' ⟨v12, v13, v14, G', k1, k2, rfl, gg, V1⟩
      refine ⟨_, rfl, _, _, rfl, dpL gg V1.pq.gh, r1, r2, r3, r4, r5, _, rfl, rfl, _, rfl, ?_⟩
      rw [decide_eq_true (Eq.refl (V.str (mvD ms).shown))]
      exact iteF ⟨_, _, _, _, _, _, G', k1, k2, rfl, V1⟩
  · rintro σ H' ⟨v9, v10, v11, v12, v13, v14, G', k1, k2, rfl, V1⟩
    clear V0
    refine ⟨_, rfl, _, rfl, by show 3 ≤ sizeLine; decide, fun t1 ht1 => ⟨by show 1 ≤ sizeLine; decide, fun q1 hq1 => ?_⟩⟩
    have A1 := V1.loc (o := .tup [.int 1, .int 0, .int 0]) ht1
    have b1 : upd H' t1 (.tup [.int 1, .int 0, .int 0]) t1 = some (.tup ([1, 0, 0].map V.int)) := upd_same
    generalize upd H' t1 (.tup [.int 1, .int 0, .int 0]) = Ha1 at *
    have B1 := A1.loc (o := .lst [.ref t1]) hq1
    have c1 : upd Ha1 q1 (.lst [.ref t1]) q1 = some (.lst [.ref t1]) := upd_same
    have d1 : upd Ha1 q1 (.lst [.ref t1]) t1 = some (.tup ([1, 0, 0].map V.int)) := by rw [upd_ne (ne_of_none b1 hq1)]; exact b1
    generalize upd Ha1 q1 (.lst [.ref t1]) = Hb1 at *
    refine ⟨.inr ⟨_, _, B1.pq.gh _ _ B1.f⟩, _, q1, [.ref t1], .ref t1, rfl, c1, rfl, by show 3 ≤ sizeLine; decide, fun u1 hu1 => ?_⟩
    have C1 := B1.loc (o := .tup [.int 1, .int 0, .int 0]) hu1
    have e1 : upd Hb1 u1 (.tup [.int 1, .int 0, .int 0]) u1 = some (.tup ([1, 0, 0].map V.int)) := upd_same
    have g1 : upd Hb1 u1 (.tup [.int 1, .int 0, .int 0]) t1 = some (.tup ([1, 0, 0].map V.int)) := by rw [upd_ne (ne_of_none d1 hu1)]; exact d1
    generalize upd Hb1 u1 (.tup [.int 1, .int 0, .int 0]) = Hc1 at *
    have z1 : SeqAt.shaped (tD (t1, [1, 0, 0])) = true := shp (G := Hc1) ⟨g1, rfl, show ∀ x ∈ ([1, 0, 0] : List Int), 0 ≤ x ∧ x < 64 by decide⟩
    refine ⟨tD (t1, [1, 0, 0]), tD (t1, [1, 0, 0]), dp_tD (q := (t1, [1, 0, 0])) g1, dp_tD (q := (u1, [1, 0, 0])) e1, z1, z1, ?_⟩
    rw [eqv_tD]
    refine ⟨_, rfl, iteT ?_⟩
    refine ⟨_, rfl, _, rfl, by show 3 ≤ sizeLine; decide, fun t2 ht2 => ⟨by show 1 ≤ sizeLine; decide, fun q2 hq2 => ?_⟩⟩
    have A2 := C1.loc (o := .tup [.int 1, .int 0, .int 0]) ht2
    have b2 : upd Hc1 t2 (.tup [.int 1, .int 0, .int 0]) t2 = some (.tup ([1, 0, 0].map V.int)) := upd_same
    generalize upd Hc1 t2 (.tup [.int 1, .int 0, .int 0]) = Ha2 at *
    have B2 := A2.loc (o := .lst [.ref t2]) hq2
    have c2 : upd Ha2 q2 (.lst [.ref t2]) q2 = some (.lst [.ref t2]) := upd_same
    have d2 : upd Ha2 q2 (.lst [.ref t2]) t2 = some (.tup ([1, 0, 0].map V.int)) := by rw [upd_ne (ne_of_none b2 hq2)]; exact b2
    generalize upd Ha2 q2 (.lst [.ref t2]) = Hb2 at *
    refine ⟨.inr ⟨_, _, B2.pq.gh _ _ B2.l⟩, _, q2, [.ref t2], .ref t2, rfl, c2, rfl, by show 3 ≤ sizeLine; decide, fun u2 hu2 => ?_⟩
    have C2 := B2.loc (o := .tup [.int 1, .int 0, .int 0]) hu2
    have e2 : upd Hb2 u2 (.tup [.int 1, .int 0, .int 0]) u2 = some (.tup ([1, 0, 0].map V.int)) := upd_same
    have g2 : upd Hb2 u2 (.tup [.int 1, .int 0, .int 0]) t2 = some (.tup ([1, 0, 0].map V.int)) := by rw [upd_ne (ne_of_none d2 hu2)]; exact d2
    generalize upd Hb2 u2 (.tup [.int 1, .int 0, .int 0]) = Hc2 at *
    have z2 : SeqAt.shaped (tD (t2, [1, 0, 0])) = true := shp (G := Hc2) ⟨g2, rfl, show ∀ x ∈ ([1, 0, 0] : List Int), 0 ≤ x ∧ x < 64 by decide⟩
    refine ⟨tD (t2, [1, 0, 0]), tD (t2, [1, 0, 0]), dp_tD (q := (t2, [1, 0, 0])) g2, dp_tD (q := (u2, [1, 0, 0])) e2, z2, z2, ?_⟩
    rw [eqv_tD]
    exact q _
end Pf
namespace Pf
open PySem PySem.Spec PyProof.Rows L2
abbrev R : PySem.W.OpenRow := PySem.W.OpenLaw.row PySem.Challenge.rw_splitplans_k43_choosers
abbrev hk : PySem.W.Hook := Hd.hook 5 fa ex defs
def ob (s : PySem.W.SharedT) : Hd.Al := Hd.atHeap 5 fa ex defs (HandSHeadRun.getT s)
theorem ob_eq (s : PySem.W.SharedT) : ob s = hk.obs s.abs := Hd.at_eq (HandSHeadRun.getT_eq s)
theorem run (w : World) : HandSHeadRun.RunEq R (PySem.W.view R.prog [10]) hk ob 6000 looseN w := by
  intro os
  kernel_rfl
end Pf
open PySem PySem.W PySem.Calls PyProof.Rows
theorem PySem.Challenge.cw_splitplans_k43_choosers_holds : PySem.Challenge.rw_splitplans_k43_choosers.Holds := by
  w_on; o_law
  refine HandSHeadRun.head_any (r := OpenLaw.row PySem.Challenge.rw_splitplans_k43_choosers) (q := view (OpenLaw.row PySem.Challenge.rw_splitplans_k43_choosers).prog [10]) (H := Pf.hk) (ob := Pf.ob) (M := 6000) (loose := Pf.looseN) (d := HandSHeadRun.topDef (OpenLaw.row PySem.Challenge.rw_splitplans_k43_choosers).prog 10) (kwd := []) Pf.ob_eq
    (by kernel_rfl) (fun s => by kernel_rfl) Pf.run (by kernel_rfl) (by kernel_rfl) (by kernel_rfl) (by rfl) (by first | assumption | decide +kernel) (by decide +kernel) ⟨rfl, rfl, rfl, rfl, rfl, by decide +kernel⟩ ?hw ?hc
  case hw => w_witness2
  case hc =>
    refine Gd.lawG (l := PySem.Challenge.rw_splitplans_k43_choosers) (n := 63) (k := 6) (x := "_law_script") rfl (by decide) (by kernel_rfl) ⟨rfl, by decide, by decide⟩ ?_
    intro w mg fa h Y G hmg0
    obtain ⟨K, KX, c⟩ := Y
    have hmg : mg ("law" : PySem.Str) = some (.ref fa) := by
      have e : (HandSHeadRun.topDef (OpenLaw.row PySem.Challenge.rw_splitplans_k43_choosers).prog 10).name = ("law" : PySem.Str) := by kernel_rfl
      rw [← e]
      exact hmg0
    have T : Pf.Tx K mg := ⟨c, fun x hx => He.glo_ok KX G (c.fact hx), fun x hx => He.free_ok KX G (c.fact hx), fun x i hx => He.int_ok KX G (c.fact hx), fun x z hx => He.str_ok KX G (c.fact hx)⟩
    have e := hmg.symm.trans (Pf.g_law T)
    cases e
    obtain ⟨fd, F⟩ := Pf.f_law T
    have b := L2.FunD.bindsA (ps := ["_law_script"]) F fun _ _ _ _ _ _ us hl => match us, hl with | [_], _ => rfl
    exact ⟨K, fd, Bs.spLaw K, KX, fun s v => b s [v] rfl, fun H a ns hl hO hS => ⟨a, ns, rfl, Bs.Fz.only hO hS, hl, fun _ => rfl⟩, fun base _ _ => Pf.o_law T F⟩
