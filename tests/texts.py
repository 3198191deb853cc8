"""A web with its texts, and edits of texts told by patterns."""

from proseknot.weaving import text_names, text_of
from proseknot.webtext import read_web

# `say` is used three times with margins of two, no and one blank, `tell` in it with three more.
TEXT = """@
.Prose one.
.
.Prose three.
*main()
|begin
|  deep
>  say(hello,a b)
|end
@
*other()
>say({x},y)
> say(p,q)
|stop
@
.Say.
=say(x,y)
|first
|
|third
|print {x}-{y}!
>   tell(<{x}>,zed)
|last
@
.No code here.
@
=tell(t,u)
|{t} {u}
"""
WEB = read_web(TEXT)

MAIN = """begin
  deep
  first

  third
  print hello-a b!
     <hello> zed
  last
end
"""

OTHER = """first

third
print {x}-y!
   <{x}> zed
last
 first

 third
 print p-q!
    <p> zed
 last
stop
"""

WOVEN = """Section 1.
Prose one.

Prose three.
file main() is
  begin
    deep
    <say 3>(hello,a b)
  end
Section 2.
file other() is
  <say 3>({x},y)
   <say 3>(p,q)
  stop
Section 3.
Say.
say(x,y) is
  first
  
  third
  print {x}-{y}!
     <tell 5>(<{x}>,zed)
  last
Used in 1, 2.
Section 4.
No code here.
Section 5.
tell(t,u) is
  {t} {u}
Used in 3.
Index
main: 1.
other: 2.
say: 3.
tell: 5.
"""

TEXTS = {"main": MAIN, "other": OTHER, "": WOVEN}


def marked(text, pattern, new):
    """The edit of the signs between [ and ] in a pattern that stands once in a text."""
    whole = pattern.replace("[", "").replace("]", "")
    assert text.count(whole) == 1, (text.count(whole), pattern)
    start = text.index(whole)
    return (start + pattern.index("["), start + pattern.index("]") - 1, new)


def entries(web, *rows):
    """A paper of rows (name, pattern, new), the patterns standing once in the texts of these names."""
    return tuple([(name,) + marked(text_of(web, name), pattern, new) for name, pattern, new in rows])


def pairs_of(web):
    return [(name, text_of(web, name)) for name in text_names(web)]
